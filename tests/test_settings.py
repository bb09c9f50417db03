"""Point 4: rules."""

import collections
import copy
import unittest

from quirehand.errors import BadRules
from quirehand.settings import need_rules
from helper import Stubborn, good_rules, in_itself, refused, things

BOUNDS = {
    "width": (4, 2000), "height": (2, 200), "part": (0, 100000), "twin": (0, 100000), "lone": (0, 100000),
    "late": (0, 100000), "over": (1, 100000), "gap": (0, 5), "ahead": (1, 6), "behind": (1, 6),
}
NO_NUMBERS = [
    True, False, "5", "", None, [], [5], (5,), {}, 5.0, float("nan"), float("inf"), b"5", object(), Stubborn(), in_itself(),
]


def good_with(key, number):
    rules = good_rules()
    rules[key] = number
    return rules


def good_without(key):
    rules = good_rules()
    del rules[key]
    return rules


class RulesTest(unittest.TestCase):
    def refuse(self, rules, name):
        with self.subTest(refused=name):
            refused(self, BadRules, need_rules, rules)

    def test_good_rules(self):
        self.assertIs(need_rules(good_rules()), True)

    def test_all_at_their_least_and_all_at_their_greatest(self):
        self.assertIs(need_rules({key: least for key, (least, most) in BOUNDS.items()}), True)
        self.assertIs(need_rules({key: most for key, (least, most) in BOUNDS.items()}), True)

    def test_the_order_of_the_keys_is_free(self):
        self.assertIs(need_rules(dict(reversed(good_rules().items()))), True)

    def test_each_key_at_its_bounds_and_just_within(self):
        for key, (least, most) in BOUNDS.items():
            for number in [least, least + 1, most - 1, most]:
                with self.subTest(key=key, number=number):
                    self.assertIs(need_rules(good_with(key, number)), True)

    def test_each_key_beyond_its_bounds_is_refused(self):
        for key, (least, most) in BOUNDS.items():
            for number in [least - 1, most + 1, -most, -10 ** 9, 10 ** 9]:
                self.refuse(good_with(key, number), f"{key}: {number}")
            self.refuse(good_with(key, 10 ** 5000), f"{key}: far beyond")
            self.refuse(good_with(key, -10 ** 5000), f"{key}: far below")

    def test_each_key_left_out_is_refused(self):
        for key in BOUNDS:
            self.refuse(good_without(key), key)

    def test_a_key_more_is_refused(self):
        for key in ["depth", "", "Width", "width ", "blank", 0, None, True, ("width",), 1.5]:
            self.refuse(good_with(key, 5), repr(key))

    def test_another_name_in_a_keys_place_is_refused(self):
        for key in BOUNDS:
            for other in ["depth", "", key.upper(), key + " ", key[:-1], 0, None, (key,)]:
                rules = good_without(key)
                rules[other] = 5
                self.refuse(rules, f"{key}: {other!r}")

    def test_what_is_no_whole_number_is_refused_at_each_key(self):
        for key in BOUNDS:
            for at, thing in enumerate(NO_NUMBERS):
                self.refuse(good_with(key, thing), f"{key}: {at}")

    def test_what_is_no_dict_is_refused(self):
        self.refuse(list(good_rules().items()), "a list of pairs")
        self.refuse(tuple(good_rules().items()), "a tuple of pairs")
        self.refuse(good_rules().items(), "the pairs of a dict")
        self.refuse(list(good_rules()), "a list of the keys")
        self.refuse(set(good_rules()), "a set of the keys")
        self.refuse(" ".join(good_rules()), "a text of the keys")
        self.refuse("", "the empty text")
        self.refuse([good_rules()], "a list of rules")

    def test_any_thing_may_be_refused(self):
        for name, thing in things():
            self.refuse(thing, name)
            self.refuse({"width": thing}, f"{name} for the width alone")

    def test_good_rules_stay_as_they_were(self):
        rules = good_rules()
        need_rules(rules)
        self.assertEqual(list(rules.items()), list(good_rules().items()))

    def test_bad_rules_stay_as_they_were(self):
        bad = [
            good_with("width", 3), good_with("gap", 6), good_with("depth", 5), good_with("part", [1, 2]),
            good_without("behind"), {}, [("width", 5)],
        ]
        for rules in bad:
            before = copy.deepcopy(rules)
            self.refuse(rules, repr(before))
            self.assertEqual(list(rules), list(before))
            self.assertEqual(rules, before)

    def test_a_dict_that_takes_in_what_it_is_asked_for_stays_as_it_was(self):
        rules = collections.defaultdict(lambda: 5, good_without("gap"))
        rules["depth"] = 5
        self.refuse(rules, "a key it would make")
        self.assertNotIn("gap", rules)
        self.assertEqual(len(rules), 10)

    def test_rules_that_are_changed_later_are_asked_anew(self):
        rules = good_rules()
        self.assertIs(need_rules(rules), True)
        rules["width"] = 3
        self.refuse(rules, "changed to bad ones")
        rules["width"] = 4
        self.assertIs(need_rules(rules), True)


if __name__ == "__main__":
    unittest.main()
