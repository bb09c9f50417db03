"""Points 5 and 6: books of joints, where a joint fits, and which one tells."""

import copy
import itertools
import random
import unittest

from quirehand.errors import BadBook
from quirehand.joints import fits, need_book, telling
from helper import LETTERS, SIGNS, Stubborn, in_itself, refused, things


def many_joints(many):
    pairs = itertools.product("abcdefghijklmnopqrstuvwxyz", repeat=2)
    return [first + "-" + second for first, second in itertools.islice(pairs, many)]


def plainly_fits(joint, word, place):
    """As point 6 says it, sign by sign."""
    mark = "-" if "-" in joint else "="
    ahead, behind = joint.split(mark)
    for back, letter in enumerate(reversed(ahead), start=1):
        if place - back < 0 or word[place - back].lower() != letter:
            return False
    for on, letter in enumerate(behind):
        if place + on >= len(word) or word[place + on].lower() != letter:
            return False
    return True


class BookTest(unittest.TestCase):
    def refuse(self, book, name):
        with self.subTest(refused=name):
            refused(self, BadBook, need_book, book)

    def test_good_books(self):
        books = [
            [], ["a-b"], ["a=b"], ["abcd-efgh"], ["a-bcdefgh"], ["abcdefg=h"], ["z-z"], ["ab-c", "a-bc"],
            ["ab-c", "a=bc"], ["a-b", "b-a"], ["a-b", "a-bc"], ["a-a", "a-aa", "aa-a"], ["n-t", "i=on", "ti-on"],
        ]
        for book in books:
            with self.subTest(book=book):
                self.assertIs(need_book(book), True)

    def test_every_small_letter_at_every_place(self):
        for letter in LETTERS[:26]:
            self.assertIs(need_book([letter + "-b"]), True)
            self.assertIs(need_book(["b=" + letter]), True)

    def test_each_number_of_letters_and_each_place_of_the_mark(self):
        for many in range(2, 9):
            for at in range(1, many):
                for mark in "-=":
                    joint = "abcdefgh"[:at] + mark + "abcdefgh"[at:many]
                    self.assertIs(need_book([joint]), True)

    def test_100_joints_and_101(self):
        self.assertIs(need_book(many_joints(99)), True)
        self.assertIs(need_book(many_joints(100)), True)
        self.refuse(many_joints(101), "101 joints")
        self.refuse(many_joints(500), "500 joints")

    def test_too_few_or_too_many_letters(self):
        for joint in ["", "-", "=", "a", "ab", "a-", "-a", "abcdefghi", "abcd-efghi", "a-bcdefghi", "abcdefgh=i", "a-" * 500]:
            self.refuse([joint], joint[:20])

    def test_just_one_mark(self):
        for joint in ["abc", "abcdefgh", "a-b-c", "a=b=c", "a-b=c", "a=b-c", "a--b", "a-=b", "a==b"]:
            self.refuse([joint], joint)

    def test_a_mark_first_or_last(self):
        for joint in ["-ab", "ab-", "=ab", "ab=", "-abcdefgh", "abcdefgh="]:
            self.refuse([joint], joint)

    def test_other_signs_than_small_letters(self):
        for sign in sorted(set(SIGNS) - set(LETTERS[:26])) + [" ", "\n", "_", "~", "+", "{"]:
            for joint in [sign + "-b", "a-" + sign, "a" + sign + "-b", "a=b" + sign, sign + "a=b"]:
                self.refuse([joint], repr(joint))

    def test_the_same_letters_with_the_mark_at_the_same_place(self):
        self.refuse(["a-b", "a-b"], "the same joint")
        self.refuse(["a-b", "a=b"], "once with - and once with =")
        self.refuse(["a=b", "a-b"], "once with = and once with -")
        self.refuse(["ab-c", "x-y", "ab=c"], "not side by side")
        self.refuse(many_joints(99) + ["a=a"], "the first and the last of 100")

    def test_a_bad_joint_among_good_ones(self):
        for bad in ["ab", "A-b", "a-b-c", 5, None, ["a-b"]]:
            self.refuse([bad, "a-b", "b-c"], f"first: {bad!r}")
            self.refuse(["a-b", bad, "b-c"], f"in the middle: {bad!r}")
            self.refuse(["a-b", "b-c", bad], f"last: {bad!r}")

    def test_what_is_no_list(self):
        for book in [(), ("a-b",), {}, {"a-b": 1}, "", "a-b", {"a-b"}, 0, None, iter(["a-b"]), b"a-b"]:
            self.refuse(book, repr(book))

    def test_any_thing_may_be_refused(self):
        for name, thing in things():
            if name != "an empty list":
                self.refuse(thing, name)
            self.refuse([thing], f"{name} as a joint")
            self.refuse(["a-b", thing], f"{name} as the last joint")
        self.refuse([Stubborn(), Stubborn()], "stubborn things")
        self.refuse([in_itself()], "a list in itself")

    def test_what_is_handed_in_stays_as_it_was(self):
        for book in [["b-a", "a-b"], ["a-b", "a=b"], ["a-b", 5], [["a-b"]]]:
            before = copy.deepcopy(book)
            try:
                need_book(book)
            except BadBook:
                pass
            self.assertEqual(book, before)

    def test_a_book_that_is_changed_is_asked_anew(self):
        book = ["a-b"]
        self.assertIs(need_book(book), True)
        book.append("a=b")
        self.refuse(book, "changed to a bad one")
        book.pop()
        self.assertIs(need_book(book), True)


class FitsTest(unittest.TestCase):
    def test_at_its_place_alone(self):
        self.assertEqual([place for place in range(1, 8) if fits("n-t", "mountain", place)], [4])
        self.assertEqual([place for place in range(1, 6) if fits("a-a", "aabaaa", place)], [1, 4, 5])

    def test_true_and_false(self):
        self.assertIs(fits("n-t", "mountain", 4), True)
        self.assertIs(fits("n-t", "mountain", 3), False)
        self.assertIs(fits("n=t", "mountain", 4), True)

    def test_the_first_and_the_last_place(self):
        self.assertIs(fits("a-b", "ab", 1), True)
        self.assertIs(fits("a-bc", "abc", 1), True)
        self.assertIs(fits("ab-c", "abc", 2), True)
        self.assertIs(fits("a-b", "abxab", 1), True)
        self.assertIs(fits("a-b", "abxab", 4), True)

    def test_beyond_the_words_beginning_and_end(self):
        self.assertIs(fits("ba-b", "ab", 1), False)
        self.assertIs(fits("a-bc", "ab", 1), False)
        self.assertIs(fits("cab-a", "ab", 1), False)
        # Not found round the word's end either.
        self.assertIs(fits("ca-b", "abc", 1), False)
        self.assertIs(fits("bc-a", "abc", 1), False)

    def test_at_what_is_no_place_nothing_fits(self):
        for place in [-9, -3, -2, -1, 0, 3, 4, 9]:
            for joint in ["a-b", "b-c", "c-a", "ab-c", "a-bc", "abc-abc"]:
                with self.subTest(place=place, joint=joint):
                    self.assertIs(fits(joint, "abc", place), False)

    def test_great_letters_are_taken_as_small_ones(self):
        for word in ["AB", "Ab", "aB", "ab"]:
            self.assertIs(fits("a-b", word, 1), True)
        for letter in LETTERS[26:]:
            self.assertIs(fits(letter.lower() + "-b", letter + "b", 1), True)

    def test_signs_that_are_no_letters_dont_fit(self):
        for sign in set(SIGNS) - set(LETTERS):
            self.assertIs(fits("a-b", "a" + sign + "b", 1), False)
            self.assertIs(fits("a-b", "a" + sign + "b", 2), False)
            self.assertIs(fits("a=b", "ab" + sign, 1), True)
            self.assertIs(fits("a=b", sign + "ab", 2), True)

    def test_against_the_plain_words_of_the_document(self):
        chance = random.Random(6)
        for _ in range(3000):
            letters = "".join([chance.choice("ab") for _ in range(chance.randint(2, 5))])
            at = chance.randint(1, len(letters) - 1)
            joint = letters[:at] + chance.choice("-=") + letters[at:]
            word = "".join([chance.choice("aAbB-.1") for _ in range(chance.randint(2, 9))])
            for place in range(1, len(word)):
                self.assertIs(fits(joint, word, place), plainly_fits(joint, word, place))


class TellingTest(unittest.TestCase):
    def test_none_where_none_fits(self):
        self.assertIsNone(telling([], "ab", 1))
        self.assertIsNone(telling(["b-a", "ab-c", "xa-b"], "ab", 1))

    def test_the_only_one_that_fits(self):
        self.assertEqual(telling(["b-a", "a=b", "b-c"], "ab", 1), "a=b")

    def test_most_letters(self):
        for book in itertools.permutations(["b-c", "ab-c", "b=cd", "ab=cd", "ab-cde"]):
            self.assertEqual(telling(list(book), "abcde", 2), "ab-cde")

    def test_of_these_most_letters_ahead_of_the_mark(self):
        for book in itertools.permutations(["c-def", "bc=de", "abc-d", "c=d"]):
            self.assertEqual(telling(list(book), "abcdef", 3), "abc-d")

    def test_more_letters_go_ahead_of_more_letters_ahead(self):
        for book in [["bc-d", "c=def"], ["c=def", "bc-d"]]:
            self.assertEqual(telling(book, "abcdef", 3), "c=def")

    def test_the_book_stays_as_it_was(self):
        book = ["ab-cd", "b-c", "a-b", "zz-z"]
        before = list(book)
        telling(book, "ABCD", 2)
        self.assertEqual(book, before)

    def test_the_book_is_asked_as_it_is_at_each_call(self):
        book = ["b-c"]
        self.assertEqual(telling(book, "abcd", 2), "b-c")
        book.append("b=cd")
        self.assertEqual(telling(book, "abcd", 2), "b=cd")
        book.clear()
        self.assertIsNone(telling(book, "abcd", 2))

    def test_against_the_plain_words_of_the_document(self):
        chance = random.Random(66)
        for _ in range(300):
            book = {}
            for _ in range(chance.randint(0, 30)):
                letters = "".join([chance.choice("ab") for _ in range(chance.randint(2, 5))])
                at = chance.randint(1, len(letters) - 1)
                book[letters[:at] + "-" + letters[at:]] = letters[:at] + chance.choice("-=") + letters[at:]
            book = list(book.values())
            need_book(book)
            word = "".join([chance.choice("aAbB.") for _ in range(chance.randint(2, 9))])
            for place in range(1, len(word)):
                fitting = [joint for joint in book if plainly_fits(joint, word, place)]
                most = max([len(joint) for joint in fitting], default=0)
                fitting = [joint for joint in fitting if len(joint) == most]
                ahead = max([len(joint.replace("=", "-").split("-")[0]) for joint in fitting], default=0)
                fitting = [joint for joint in fitting if len(joint.replace("=", "-").split("-")[0]) == ahead]
                self.assertEqual([telling(book, word, place)], fitting or [None])


if __name__ == "__main__":
    unittest.main()
