"""Points 2 and 7: words, and where they may be parted or broken."""

import copy
import random
import unittest

from quirehand.errors import BadWord
from quirehand.joints import telling
from quirehand.parting import is_word, parted, places
from helper import LETTERS, SIGNS, good_rules, refused, things

NO_WORDS = ["", "a" * 41, "a" * 5000, " ", "a b", " a", "a ", "a\n", "\n", "a\tb", "a{b", "a}", "=", "|", "~", "a_b", "%", "a+b"]


class WordTest(unittest.TestCase):
    def test_each_sign_is_a_word(self):
        for sign in SIGNS:
            self.assertIs(is_word(sign), True)
            self.assertIs(is_word("a" + sign + "b"), True)

    def test_from_1_to_40_signs(self):
        for many in range(1, 41):
            self.assertIs(is_word("a" * many), True)
            self.assertIs(is_word("." * many), True)
        self.assertIs(is_word("".join(SIGNS)[:40]), True)
        self.assertIs(is_word(""), False)
        self.assertIs(is_word("a" * 41), False)

    def test_other_signs(self):
        for word in NO_WORDS:
            with self.subTest(word=word):
                self.assertIs(is_word(word), False)
        for code in range(ord(" "), ord("~") + 1):
            self.assertIs(is_word("a" + chr(code) + "a"), chr(code) in SIGNS)

    def test_any_thing(self):
        for name, thing in things() + [("a tuple of a sign", ("a",)), ("a list of a sign", ["a"]), ("bytes", b"word")]:
            with self.subTest(thing=name):
                self.assertIs(is_word(thing), False)

    def test_it_answers_of_signs_beyond_tilde_as_well(self):
        for word in ["\u00e4", "a\ud800", "\u212a", "\u0130"]:
            self.assertIn(is_word(word), [True, False])


class PlacesTest(unittest.TestCase):
    free = good_rules(ahead=1, behind=1)

    def test_a_minus_parts_and_an_equals_sign_doesnt(self):
        self.assertEqual(places(["n-t"], self.free, "mountain"), [(4, "part")])
        self.assertEqual(places(["n=t"], self.free, "mountain"), [])
        self.assertEqual(places(["n-t", "un=t"], self.free, "mountain"), [])
        self.assertEqual(places(["n=t", "n-ta"], self.free, "mountain"), [(4, "part")])

    def test_no_place_at_all(self):
        self.assertEqual(places([], self.free, "mountain"), [])
        self.assertEqual(places(["a-b"], self.free, "a"), [])
        self.assertEqual(places(["a-b"], self.free, "-"), [])
        self.assertEqual(places(["x-y"], self.free, "12.5"), [])

    def test_rising(self):
        self.assertEqual(
            places(["a-b", "b-a", "c-c"], self.free, "abab"), [(1, "part"), (2, "part"), (3, "part")])
        self.assertEqual(
            places(["t-e", "l-k"], self.free, "water-walking"), [(3, "part"), (6, "soft"), (9, "part")])

    def test_ahead_and_behind(self):
        for ahead in range(1, 7):
            for behind in range(1, 7):
                found = places(["a-a"], good_rules(ahead=ahead, behind=behind), "aaaaaaa")
                self.assertEqual(found, [(place, "part") for place in range(ahead, 8 - behind)])

    def test_just_at_ahead_and_behind_and_one_less(self):
        rules = good_rules(ahead=2, behind=3)
        self.assertEqual(places(["b-c"], rules, "abcde"), [(2, "part")])
        self.assertEqual(places(["b-c"], rules, "bcde"), [])
        self.assertEqual(places(["b-c"], rules, "abcd"), [])

    def test_counted_along_the_run_of_letters_alone(self):
        rules = good_rules(ahead=2, behind=3)
        for sign in sorted(set(SIGNS) - set(LETTERS)):
            with self.subTest(sign=sign):
                wide_run = [pair for pair in places(["b-c"], rules, "x" + sign + "abcde" + sign + "x") if pair[1] == "part"]
                self.assertEqual(wide_run, [(4, "part")])
                short_ahead = places(["b-c"], rules, "xxx" + sign + "bcde")
                self.assertEqual([pair for pair in short_ahead if pair[1] == "part"], [])
                short_behind = places(["b-c"], rules, "abcd" + sign + "xxx")
                self.assertEqual([pair for pair in short_behind if pair[1] == "part"], [])

    def test_great_letters_belong_to_the_run(self):
        self.assertEqual(places(["b-c"], good_rules(ahead=2, behind=3), "ABCDE"), [(2, "part")])
        self.assertEqual(places(["b-c"], good_rules(ahead=2, behind=3), "AbcDE"), [(2, "part")])

    def test_soft_right_behind_a_dash_between_two_letters(self):
        self.assertEqual(places([], good_rules(ahead=6, behind=6), "a-b"), [(2, "soft")])
        self.assertEqual(places([], self.free, "well-known"), [(5, "soft")])
        self.assertEqual(places([], self.free, "A-B-C"), [(2, "soft"), (4, "soft")])

    def test_no_soft_beside_another_sign(self):
        for sign in sorted(set(SIGNS) - set(LETTERS)):
            with self.subTest(sign=sign):
                self.assertEqual(places([], self.free, "a" + sign + "-b")[:1], [])
                self.assertEqual([place for place, join in places([], self.free, "a-" + sign + "b") if place == 2], [])
        for word in ["a-", "-a", "-", "--", "a--b", "-a-", "1-2", "a-1", "1-a", "a-.b", "(a)-b"]:
            with self.subTest(word=word):
                self.assertEqual(places([], self.free, word), [])

    def test_no_word_is_refused(self):
        for word in NO_WORDS:
            with self.subTest(word=word):
                refused(self, BadWord, places, ["a-b"], self.free, word)
                refused(self, BadWord, parted, ["a-b"], self.free, word)
        for name, thing in things():
            with self.subTest(thing=name):
                refused(self, BadWord, places, [], self.free, thing)
                refused(self, BadWord, parted, [], self.free, thing)

    def test_a_word_of_40_signs(self):
        self.assertEqual(len(places(["a-a"], self.free, "a" * 40)), 39)
        self.assertEqual(parted(["a-a"], self.free, "a" * 40), [("a", "part")] * 39 + [("a", "blank")])

    def test_told_lists_are_the_askers_own(self):
        book = ["n-t"]
        told = places(book, self.free, "mountain")
        told.append("more")
        self.assertEqual(places(book, self.free, "mountain"), [(4, "part")])
        told = parted(book, self.free, "mountain")
        told.clear()
        self.assertEqual(parted(book, self.free, "mountain"), [("moun", "part"), ("tain", "blank")])

    def test_the_pairs_are_tuples(self):
        for pair in places(["n-t"], self.free, "moun-tain-nt") + parted(["n-t"], self.free, "moun-tain-nt"):
            self.assertIs(pair.__class__, tuple)
            self.assertEqual(len(pair), 2)

    def test_what_is_handed_in_stays_as_it_was(self):
        book, rules = ["n-t", "a=b"], good_rules(ahead=1, behind=1)
        before = copy.deepcopy((book, rules))
        places(book, rules, "mountain-ab")
        parted(book, rules, "mountain-ab")
        self.assertEqual((book, rules), before)

    def test_book_and_rules_are_asked_as_they_are(self):
        book, rules = ["n-t"], good_rules(ahead=1, behind=1)
        self.assertEqual(places(book, rules, "mountain"), [(4, "part")])
        rules["ahead"] = 5
        self.assertEqual(places(book, rules, "mountain"), [])
        rules["ahead"] = 4
        book.append("n=ta")
        self.assertEqual(places(book, rules, "mountain"), [])


class PartedTest(unittest.TestCase):
    rules = good_rules(ahead=1, behind=1)

    def test_cut_at_its_places(self):
        self.assertEqual(parted(["n-t"], self.rules, "mountain"), [("moun", "part"), ("tain", "blank")])
        self.assertEqual(
            parted(["n-t"], self.rules, "mountain-top"), [("moun", "part"), ("tain-", "soft"), ("top", "blank")])

    def test_a_word_with_no_place(self):
        self.assertEqual(parted([], self.rules, "mountain"), [("mountain", "blank")])
        self.assertEqual(parted([], self.rules, "-"), [("-", "blank")])

    def test_by_chance(self):
        chance = random.Random(7)
        book = ["a-b", "b-a", "ab=a", "a-a", "b=b", "bb-b", "aab-a", "a=aa"]
        for _ in range(1500):
            rules = good_rules(ahead=chance.randint(1, 3), behind=chance.randint(1, 3))
            word = "".join([chance.choice("aabbAB-1.") for _ in range(chance.randint(1, 12))])
            self.assertEqual(places(book, rules, word), self.plainly(book, rules, word))
            texts = parted(book, rules, word)
            self.assertEqual("".join([text for text, join in texts]), word)
            self.assertNotIn("", [text for text, join in texts])
            self.assertEqual(texts[-1][1], "blank")
            at, cuts = 0, []
            for text, join in texts[:-1]:
                at += len(text)
                cuts.append((at, join))
            self.assertEqual(cuts, places(book, rules, word))

    def plainly(self, book, rules, word):
        found = []
        for place in range(1, len(word)):
            run = "".join(["a" if sign in LETTERS else " " for sign in word])
            ahead = len(run[:place]) - len(run[:place].rstrip("a"))
            behind = len(run[place:]) - len(run[place:].lstrip("a"))
            joint = telling(book, word, place)
            if joint and "-" in joint and ahead >= rules["ahead"] and behind >= rules["behind"]:
                found.append((place, "part"))
            if run[place - 2:place + 1] == "a a" and word[place - 1] == "-":
                found.append((place, "soft"))
        return found


if __name__ == "__main__":
    unittest.main()
