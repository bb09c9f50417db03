"""What several tests need: the signs, good rules, things of all kinds, and how a refusal is asked for."""

from quirehand import errors

LETTERS = "abcdefghijklmnopqrstuvwxyzABCDEFGHIJKLMNOPQRSTUVWXYZ"
SIGNS = list(LETTERS) + list("0123456789") + [".", ",", ";", ":", "!", "?", "'", '"', "(", ")", "-", "/"]

TEN = (
    errors.BadFace, errors.BadRules, errors.BadBook, errors.BadWord, errors.BadBlocks,
    errors.BadText, errors.BadBreaks, errors.TooWide, errors.NoPlace, errors.NoNote,
)


class Stubborn:
    """A thing that fails whatever it is asked."""

    def refuse(self, *others):
        raise RuntimeError("this thing can't be asked")

    __eq__ = __ne__ = __lt__ = __le__ = __gt__ = __ge__ = refuse
    __len__ = __iter__ = __getitem__ = __contains__ = __hash__ = refuse
    __bool__ = __int__ = __index__ = __repr__ = __str__ = refuse


def in_itself():
    ring = []
    ring.append(ring)
    return ring


def nested():
    deep = ()
    for _ in range(100000):
        deep = (deep,)
    return deep


def things():
    """Things that are no text, no tuple of three and no dict with a key, each with a name to tell it by."""
    return [
        ("nought", 0), ("one", 1), ("below nought", -1), ("a great number", 10 ** 5000), ("a half", 0.5),
        ("not a number", float("nan")), ("True", True), ("False", False), ("None", None),
        ("an empty list", []), ("a list", [1, "a"]), ("an empty tuple", ()), ("a tuple", ("a",)),
        ("an empty dict", {}), ("a set", {1, 2}), ("bytes", b"a"), ("a range", range(3)),
        ("a function", things), ("a class", dict), ("an object", object()),
        ("a stubborn thing", Stubborn()), ("a list in itself", in_itself()), ("a deep tuple", nested()),
    ]


def good_rules(**others):
    rules = {
        "width": 60, "height": 20, "part": 50, "twin": 100, "lone": 200, "late": 300, "over": 1000,
        "gap": 1, "ahead": 2, "behind": 3,
    }
    rules.update(others)
    return rules


def face_by_chance(chance):
    odd = [(sign, chance.randint(1, 20)) for sign in sorted("aim-.(1") if chance.random() < 0.5]
    return (chance.randint(1, 20), chance.randint(1, 20), tuple(sorted(odd)))


def good_lay(**others):
    lay = {"width": 10, "part": 7, "twin": 5, "over": 100, "blank": 1, "dash": 1}
    lay.update(others)
    return lay


def row_of(*widths_and_joins):
    """A row of pieces: (5, "part") is a piece of width 5; the last one's join is made "blank"."""
    parts = [part if isinstance(part, tuple) else (part, "blank") for part in widths_and_joins]
    parts[-1] = (parts[-1][0], "blank")
    return [(LETTERS[at % 52] * max(1, width // 2), width, join) for at, (width, join) in enumerate(parts)]


def row_by_chance(chance, most, widest=8):
    return row_of(*[
        (chance.randint(1, widest), chance.choice(["blank", "blank", "part", "part", "soft"]))
        for _ in range(chance.randint(1, most))])


def lay_by_chance(chance):
    return good_lay(
        width=chance.randint(1, 20), part=chance.choice([0, 1, 7, 30]), twin=chance.choice([0, 1, 5, 40]),
        over=chance.choice([1, 3, 100]), blank=chance.randint(1, 3), dash=chance.randint(1, 4))


def words(many, word="a"):
    return (word,) * many


def refused(case, kind, ask, *handed):
    """Of the ten classes just this one, and no error of Python's own."""
    try:
        answer = ask(*handed)
    except Exception as error:
        case.assertIs(error.__class__, kind)
        for other in TEN:
            case.assertEqual(isinstance(error, other), other is kind)
        return
    case.fail(f"not refused, but answered with {answer!r}")
