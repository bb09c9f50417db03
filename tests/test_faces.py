"""Points 2 and 3: signs of words, faces, and how wide a line is."""

import copy
import unittest

from quirehand.errors import BadFace
from quirehand.faces import is_sign, need_face, wide
from helper import SIGNS, Stubborn, in_itself, refused, things

RISING = sorted(SIGNS)
NO_WIDTHS = [
    0, 21, -1, -20, 22, 1000, 10 ** 5000, -10 ** 5000, True, False, "5", "", None, 1.0, 5.0, float("nan"),
    [], [5], (5,), {}, object(), Stubborn(), in_itself(),
]
NO_SIGNS = [
    "ab", "", " ", "a ", "%", "~", "{", "\n", 5, 0, True, None, [], ["a"], ("a",), {}, {"a": 1}, b"a", 1.5,
    object(), Stubborn(), in_itself(),
]


class SignTest(unittest.TestCase):
    def test_there_are_seventy_four(self):
        self.assertEqual(len(set(SIGNS)), 74)

    def test_each_sign_of_words_is_one(self):
        for sign in SIGNS:
            with self.subTest(sign=sign):
                self.assertIs(is_sign(sign), True)

    def test_no_other_sign_from_blank_to_tilde_is_one(self):
        others = [chr(code) for code in range(ord(" "), ord("~") + 1) if chr(code) not in SIGNS]
        self.assertEqual(len(others), 21)
        for sign in others:
            with self.subTest(sign=sign):
                self.assertIs(is_sign(sign), False)

    def test_line_ends_and_tabs_are_none(self):
        for sign in ["\n", "\t", "\r", "\0"]:
            with self.subTest(sign=sign):
                self.assertIs(is_sign(sign), False)

    def test_the_empty_text_is_none(self):
        self.assertIs(is_sign(""), False)

    def test_texts_of_two_signs_or_more_are_none(self):
        for text in ["ab", "aa", "yz", "Za", "09", ".,", "()", "-/", "a ", " a", "a\n", "abc", "".join(SIGNS)]:
            with self.subTest(text=text):
                self.assertIs(is_sign(text), False)

    def test_what_is_no_text_is_none(self):
        for name, thing in things() + [("a list of a sign", ["a"]), ("a dict with a sign", {"a": 1})]:
            with self.subTest(thing=name):
                self.assertIs(is_sign(thing), False)

    def test_it_answers_of_signs_beyond_tilde_as_well(self):
        for sign in ["\x7f", "\u00e4", "\u0660", "\ud800", "\U0001f4d6"]:
            with self.subTest(code=ord(sign)):
                self.assertIn(is_sign(sign), [True, False])


class FaceTest(unittest.TestCase):
    def refuse(self, face, name):
        with self.subTest(refused=name):
            refused(self, BadFace, need_face, face)

    def test_good_faces(self):
        faces = [
            (5, 3, (("i", 2), ("m", 8))), (5, 3, (("A", 7), ("a", 5))), (1, 1, ()), (20, 20, ()), (1, 20, ()), (20, 1, ()),
            (1, 1, (("a", 1),)), (20, 20, (("a", 20),)), (2, 3, (("a", 1), ("b", 20))), (2, 3, (("a", 2), ("b", 2))),
        ]
        for face in faces:
            with self.subTest(face=face):
                self.assertIs(need_face(face), True)

    def test_every_sign_may_be_odd(self):
        for sign in SIGNS:
            with self.subTest(sign=sign):
                self.assertIs(need_face((5, 3, ((sign, 4),))), True)

    def test_all_signs_may_be_odd_at_once(self):
        odd = tuple([(sign, 1 + at % 20) for at, sign in enumerate(RISING)])
        self.assertIs(need_face((5, 3, odd)), True)

    def test_each_width_from_1_to_20_is_good_at_each_place(self):
        for width in range(1, 21):
            with self.subTest(width=width):
                self.assertIs(need_face((width, 3, ())), True)
                self.assertIs(need_face((3, width, ())), True)
                self.assertIs(need_face((3, 3, (("a", width),))), True)

    def test_what_is_no_width_is_refused_at_each_place(self):
        for at, width in enumerate(NO_WIDTHS):
            self.refuse((width, 3, ()), f"plain, {at}")
            self.refuse((5, width, ()), f"blank, {at}")
            self.refuse((5, 3, (("a", width),)), f"odd, {at}")
            self.refuse((5, 3, (("a", 1), ("b", width))), f"the last of odd, {at}")
            self.refuse((5, 3, (("a", width), ("b", 1))), f"the first of odd, {at}")

    def test_what_is_no_sign_is_refused(self):
        for at, sign in enumerate(NO_SIGNS):
            self.refuse((5, 3, ((sign, 4),)), f"alone, {at}")
            self.refuse((5, 3, ((sign, 4), ("z", 4))), f"the first, {at}")
            self.refuse((5, 3, (("!", 4), (sign, 4))), f"the last, {at}")

    def test_a_sign_told_twice_is_refused(self):
        self.refuse((5, 3, (("a", 4), ("a", 4))), "the same width")
        self.refuse((5, 3, (("a", 4), ("a", 5))), "another width")
        self.refuse((5, 3, (("a", 4), ("b", 4), ("b", 4))), "the last two")
        self.refuse((5, 3, (("a", 4), ("b", 4), ("a", 4))), "not side by side")

    def test_signs_out_of_order_are_refused(self):
        self.refuse((5, 3, (("b", 4), ("a", 4))), "b, a")
        self.refuse((5, 3, (("a", 4), ("A", 4))), "great letters lie ahead of small ones")
        self.refuse((5, 3, (("A", 4), ("0", 4))), "digits lie ahead of letters")
        self.refuse((5, 3, (("a", 4), ("c", 4), ("b", 4))), "the last two")
        self.refuse((5, 3, tuple([(sign, 4) for sign in reversed(RISING)])), "all, falling")
        self.refuse((5, 3, tuple([(sign, 4) for sign in SIGNS])), "all, in the order of the document")

    def test_each_two_signs_side_by_side_in_order_alone(self):
        for low, high in zip(RISING, RISING[1:]):
            with self.subTest(low=low, high=high):
                self.assertIs(need_face((5, 3, ((low, 4), (high, 4)))), True)
                refused(self, BadFace, need_face, (5, 3, ((high, 4), (low, 4))))

    def test_a_list_in_the_place_of_a_tuple_is_refused(self):
        self.refuse([5, 3, ()], "the face")
        self.refuse([5, 3, (("a", 4),)], "the face, with odd")
        self.refuse((5, 3, []), "odd, empty")
        self.refuse((5, 3, [("a", 4)]), "odd")
        self.refuse((5, 3, (["a", 4],)), "a pair")
        self.refuse((5, 3, (("a", 4), ["b", 4])), "the last pair")

    def test_another_length_is_refused(self):
        self.refuse((), "an empty face")
        self.refuse((5,), "a face of one")
        self.refuse((5, 3), "a face of two")
        self.refuse((5, ()), "a face of two, with odd")
        self.refuse((5, 3, (), ()), "a face of four")
        self.refuse((5, 3, ((),)), "an empty pair")
        self.refuse((5, 3, (("a",),)), "a pair of one")
        self.refuse((5, 3, (("a", 4, 4),)), "a pair of three")
        self.refuse((5, 3, ("a", 4)), "a pair in the place of odd")

    def test_texts_in_the_place_of_tuples_are_refused(self):
        self.refuse("abc", "the face")
        self.refuse((5, 3, ""), "odd, empty")
        self.refuse((5, 3, "ab"), "odd")
        self.refuse((5, 3, ("a4",)), "a pair")

    def test_a_dict_in_the_place_of_a_tuple_is_refused(self):
        self.refuse({0: 5, 1: 3, 2: ()}, "the face")
        self.refuse((5, 3, {"a": 4}), "odd")
        self.refuse((5, 3, ({0: "a", 1: 4},)), "a pair")

    def test_any_thing_may_be_refused(self):
        for name, thing in things():
            self.refuse(thing, name)
            self.refuse((5, 3, (thing,)), f"{name} as a pair")
            self.refuse((thing, thing, thing), f"{name} three times")
            if name != "an empty tuple":
                self.refuse((5, 3, thing), f"{name} as odd")

    def test_what_is_handed_in_stays_as_it_was(self):
        for face in [(5, 3, [("b", 4), ("a", 4)]), [5, 3, (("a", 4),)], (5, 3, (["a", 4],)), {"a": 4}]:
            before = copy.deepcopy(face)
            self.refuse(face, repr(before))
            self.assertEqual(face, before)


class WideTest(unittest.TestCase):
    face = (5, 3, (("!", 1), ("M", 20), ("i", 2)))

    def test_the_empty_text(self):
        self.assertEqual(wide(self.face, ""), 0)
        self.assertEqual(wide((1, 1, ()), ""), 0)

    def test_a_sign_in_odd_is_as_wide_as_told_there(self):
        self.assertEqual(wide(self.face, "i"), 2)
        self.assertEqual(wide(self.face, "M"), 20)
        self.assertEqual(wide(self.face, "!"), 1)

    def test_each_other_sign_is_plain(self):
        for sign in SIGNS:
            if sign not in "!Mi":
                with self.subTest(sign=sign):
                    self.assertEqual(wide(self.face, sign), 5)

    def test_great_and_small_letters_are_two_signs(self):
        self.assertEqual(wide(self.face, "I"), 5)
        self.assertEqual(wide(self.face, "m"), 5)

    def test_a_blank_is_as_wide_as_blank(self):
        self.assertEqual(wide(self.face, " "), 3)
        self.assertEqual(wide(self.face, "    "), 12)

    def test_a_line_is_as_wide_as_its_signs_together(self):
        self.assertEqual(wide(self.face, "Mimi"), 20 + 2 + 5 + 2)
        self.assertEqual(wide(self.face, "a i"), 5 + 3 + 2)
        self.assertEqual(wide(self.face, " iii  M! "), 3 + 6 + 6 + 20 + 1 + 3)
        self.assertEqual(wide((7, 4, ()), "two words"), 8 * 7 + 4)

    def test_all_signs_with_a_width_of_their_own(self):
        odd = tuple([(sign, 1 + at % 20) for at, sign in enumerate(RISING)])
        for sign, width in odd:
            with self.subTest(sign=sign):
                self.assertEqual(wide((5, 3, odd), sign), width)
        self.assertEqual(wide((5, 3, odd), "".join(SIGNS)), sum([width for sign, width in odd]))

    def test_a_long_line(self):
        self.assertEqual(wide(self.face, "ab i" * 5000), 15 * 5000)

    def test_one_face_changes_nothing_of_another(self):
        wide((5, 3, (("a", 9),)), "a ")
        self.assertEqual(wide((4, 2, ()), "a "), 6)


if __name__ == "__main__":
    unittest.main()
