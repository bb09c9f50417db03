"""What several tests need: the signs, good rules, things of all kinds, and how a refusal is asked for."""

from quirehand import errors

LETTERS = "abcdefghijklmnopqrstuvwxyzABCDEFGHIJKLMNOPQRSTUVWXYZ"
SIGNS = list(LETTERS) + list("0123456789") + [".", ",", ";", ":", "!", "?", "'", '"', "(", ")", "-", "/"]

TEN = (
    errors.BadFace, errors.BadRules, errors.BadBook, errors.BadWord, errors.BadBlocks,
    errors.BadText, errors.BadBreaks, errors.TooWide, errors.NoPlace, errors.NoNote,
)


class Stubborn:
    """A thing that fails whatever it is asked."""

    def refuse(self, *others):
        raise RuntimeError("this thing can't be asked")

    __eq__ = __ne__ = __lt__ = __le__ = __gt__ = __ge__ = refuse
    __len__ = __iter__ = __getitem__ = __contains__ = __hash__ = refuse
    __bool__ = __int__ = __index__ = __repr__ = __str__ = refuse


def in_itself():
    ring = []
    ring.append(ring)
    return ring


def nested():
    deep = ()
    for _ in range(100000):
        deep = (deep,)
    return deep


def things():
    """Things that are no text, no tuple of three and no dict with a key, each with a name to tell it by."""
    return [
        ("nought", 0), ("one", 1), ("below nought", -1), ("a great number", 10 ** 5000), ("a half", 0.5),
        ("not a number", float("nan")), ("True", True), ("False", False), ("None", None),
        ("an empty list", []), ("a list", [1, "a"]), ("an empty tuple", ()), ("a tuple", ("a",)),
        ("an empty dict", {}), ("a set", {1, 2}), ("bytes", b"a"), ("a range", range(3)),
        ("a function", things), ("a class", dict), ("an object", object()),
        ("a stubborn thing", Stubborn()), ("a list in itself", in_itself()), ("a deep tuple", nested()),
    ]


def good_rules(**others):
    rules = {
        "width": 60, "height": 20, "part": 50, "twin": 100, "lone": 200, "late": 300, "over": 1000,
        "gap": 1, "ahead": 2, "behind": 3,
    }
    rules.update(others)
    return rules


def words(many, word="a"):
    return (word,) * many


def refused(case, kind, ask, *handed):
    """Of the ten classes just this one, and no error of Python's own."""
    try:
        answer = ask(*handed)
    except Exception as error:
        case.assertIs(error.__class__, kind)
        for other in TEN:
            case.assertEqual(isinstance(error, other), other is kind)
        return
    case.fail(f"not refused, but answered with {answer!r}")
