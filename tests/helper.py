"""What several tests need: the signs, good rules, things of all kinds, and how a refusal is asked for."""

from quirehand import errors
from quirehand.writing import written

LETTERS = "abcdefghijklmnopqrstuvwxyzABCDEFGHIJKLMNOPQRSTUVWXYZ"
SIGNS = list(LETTERS) + list("0123456789") + [".", ",", ";", ":", "!", "?", "'", '"', "(", ")", "-", "/"]

TEN = (
    errors.BadFace, errors.BadRules, errors.BadBook, errors.BadWord, errors.BadBlocks,
    errors.BadText, errors.BadBreaks, errors.TooWide, errors.NoPlace, errors.NoNote,
)


class Stubborn:
    """A thing that fails whatever it is asked."""

    def refuse(self, *others):
        raise RuntimeError("this thing can't be asked")

    __eq__ = __ne__ = __lt__ = __le__ = __gt__ = __ge__ = refuse
    __len__ = __iter__ = __getitem__ = __contains__ = __hash__ = refuse
    __bool__ = __int__ = __index__ = __repr__ = __str__ = refuse


def in_itself():
    ring = []
    ring.append(ring)
    return ring


def nested():
    deep = ()
    for _ in range(100000):
        deep = (deep,)
    return deep


def things():
    """Things that are no text, no tuple of three and no dict with a key, each with a name to tell it by."""
    return [
        ("nought", 0), ("one", 1), ("below nought", -1), ("a great number", 10 ** 5000), ("a half", 0.5),
        ("not a number", float("nan")), ("True", True), ("False", False), ("None", None),
        ("an empty list", []), ("a list", [1, "a"]), ("an empty tuple", ()), ("a tuple", ("a",)),
        ("an empty dict", {}), ("a set", {1, 2}), ("bytes", b"a"), ("a range", range(3)),
        ("a function", things), ("a class", dict), ("an object", object()),
        ("a stubborn thing", Stubborn()), ("a list in itself", in_itself()), ("a deep tuple", nested()),
    ]


def good_rules(**others):
    rules = {
        "width": 60, "height": 20, "part": 50, "twin": 100, "lone": 200, "late": 300, "over": 1000,
        "gap": 1, "ahead": 2, "behind": 3,
    }
    rules.update(others)
    return rules


def face_by_chance(chance):
    odd = [(sign, chance.randint(1, 20)) for sign in sorted("aim-.(1") if chance.random() < 0.5]
    return (chance.randint(1, 20), chance.randint(1, 20), tuple(sorted(odd)))


def good_lay(**others):
    lay = {"width": 10, "part": 7, "twin": 5, "over": 100, "blank": 1, "dash": 1}
    lay.update(others)
    return lay


def row_of(*widths_and_joins):
    """A row of pieces: (5, "part") is a piece of width 5; the last one's join is made "blank"."""
    parts = [part if isinstance(part, tuple) else (part, "blank") for part in widths_and_joins]
    parts[-1] = (parts[-1][0], "blank")
    return [(LETTERS[at % 52] * max(1, width // 2), width, join) for at, (width, join) in enumerate(parts)]


def row_by_chance(chance, most, widest=8):
    return row_of(*[
        (chance.randint(1, widest), chance.choice(["blank", "blank", "part", "part", "soft"]))
        for _ in range(chance.randint(1, most))])


def lay_by_chance(chance):
    return good_lay(
        width=chance.randint(1, 20), part=chance.choice([0, 1, 7, 30]), twin=chance.choice([0, 1, 5, 40]),
        over=chance.choice([1, 3, 100]), blank=chance.randint(1, 3), dash=chance.randint(1, 4))


def strips_by_chance(chance, most, most_marks, cuts=("never", "must", 0, 0, 0, 7)):
    """Strips and the heights of their notes."""
    strips, marks = [], 0
    for at in range(chance.randint(1, most)):
        many = min(most_marks - marks, chance.choice([0, 0, 0, 1, 1, 2, 3]))
        marks += many
        strips.append((chance.choice([0, 0, 1]) if at else 0, chance.choice([1, 1, 1, 2, 4]), chance.choice(cuts), many))
    strips[-1] = strips[-1][:2] + (0,) + strips[-1][3:]
    return strips, [chance.choice([1, 1, 2, 3]) for _ in range(marks)]


def plain_may_end(strips, begin, end):
    cuts = [strip[2] for strip in strips[begin:end]]
    return cuts[-1] != "never" and "must" not in cuts[:-1]


def plain_leaf_cost(strips, heights, rules, begin, end, ahead, late):
    """As points 21 to 23 say it; None where it is no leaf."""
    last = end == len(strips)
    owners = [at for at, strip in enumerate(strips) for _ in range(strip[3])]
    own = [note for note, at in enumerate(owners) if begin <= at < end]
    if not plain_may_end(strips, begin, end) or late > len(own) or (last and late):
        return None
    before = [note for note, at in enumerate(owners) if at < begin]
    foot = before[len(before) - ahead:] + own[:len(own) - late]
    height = sum([strip[1] for strip in strips[begin:end]]) + sum([strip[0] for strip in strips[begin + 1:end]])
    height += 1 + sum([heights[note] for note in foot]) if foot else 0
    lesser = [at for at in range(begin + 1, end) if plain_may_end(strips, begin, at)]
    if height > rules["height"] and (lesser or not (last or late == len(own))):
        return None
    cut = strips[end - 1][2]
    price = late * rules["late"]
    if height > rules["height"]:
        price += rules["over"] * (height - rules["height"])
    elif not last and cut != "must":
        price += (rules["height"] - height) ** 2
    return price + (cut if not last and isinstance(cut, int) else 0)


def words(many, word="a"):
    return (word,) * many


def block_by_chance(chance, notes=True):
    kind = chance.choice(["head", "text", "text", "text", "table", "leaf"])

    def some(least, most):
        return tuple([
            "".join([chance.choice("aabbnt-") for _ in range(chance.randint(1, 6))]) for _ in range(chance.randint(least, most))])

    if kind == "head":
        return (kind, some(1, 4))
    if kind == "text":
        many = [chance.choice([0, 0, 0, 0, 0, 1, 1, 2]) if notes else 0 for _ in range(chance.randint(1, 14))]
        return (kind, tuple([(some(1, 1)[0], tuple([some(1, 6) for _ in range(each)])) for each in many]))
    if kind == "table":
        cells = chance.randint(1, 2)
        return (kind, tuple([tuple([some(0, 3) for _ in range(cells)]) for _ in range(chance.randint(1, 3))]))
    return (kind,)


def text_by_chance(chance):
    """A text, rules and a face by which none of its tables is too wide."""
    blocks = [block_by_chance(chance) for _ in range(chance.randint(0, 7))]
    rules = good_rules(
        width=chance.randint(30, 60), height=chance.randint(2, 12), part=chance.choice([0, 5, 50]),
        twin=chance.choice([0, 9]), lone=chance.choice([0, 10, 200]), late=chance.choice([0, 20, 300]),
        over=chance.choice([1, 50]), gap=chance.randint(0, 2), ahead=1, behind=1)
    return written(blocks), rules, (chance.randint(1, 2), chance.randint(1, 2), (("a", 1), ("b", 2)))


def refused(case, kind, ask, *handed):
    """Of the ten classes just this one, and no error of Python's own."""
    try:
        answer = ask(*handed)
    except Exception as error:
        case.assertIs(error.__class__, kind)
        for other in TEN:
            case.assertEqual(isinstance(error, other), other is kind)
        return
    case.fail(f"not refused, but answered with {answer!r}")
