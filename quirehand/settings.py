"""The rules by which a text is set."""

from quirehand.errors import BadRules
from quirehand.whole import is_within

BOUNDS = (
    ("width", 4, 2000),
    ("height", 2, 200),
    ("part", 0, 100000),
    ("twin", 0, 100000),
    ("lone", 0, 100000),
    ("late", 0, 100000),
    ("over", 1, 100000),
    ("gap", 0, 5),
    ("ahead", 1, 6),
    ("behind", 1, 6),
)


# A key is looked for ahead of its number: a dict of some kinds takes in a key that it lacks
# when it is asked for it by index, and what is handed in stays as it was.
def are_rules(thing):
    if not isinstance(thing, dict) or len(thing) != len(BOUNDS):
        return False
    for key, least, most in BOUNDS:
        if key not in thing or not is_within(thing[key], least, most):
            return False
    return True


# The error doesn't show what it refuses: that may be any thing, and some can't be shown.
def need_rules(rules):
    if not are_rules(rules):
        raise BadRules("rules are a dict of ten keys, each with a whole number within its bounds")
    return True
