"""Letters with their writings, things that are near to one and none, rows and seats."""

import itertools

SIXTY = 10 ** 60 - 1
SIXTY_ONE = 10 ** 60
HUGE = 10 ** 70
NINE = tuple(range(9))

OPEN = ("open",)
STORE = ((("a", 1), ("ab", -2), ("b", 0)), (("al", 1, 0), ("bob", 3, -7)))
FIVE = (
    (1, OPEN),
    (2, ("wish", "bob", 1, ("set", "x", -5))),
    (2, ("wish", "bob", 2, ("add", "x", 7))),
    (2, ("wish", "al", 1, ("get", "y"))),
    (3, ("seats", (0, 3, 8))),
)

LETTERS = [
    (("ask", 0, 8, 1, 0, 0), "ask 0 8 1 0 0"),
    (("ask", 8, 0, 12, 7, 3), "ask 8 0 12 7 3"),
    (("ask", 1, 2, SIXTY, SIXTY, SIXTY), "ask 1 2 " + " ".join(["9" * 60] * 3)),
    (("voice", 1, 2, 3, True), "voice 1 2 3 yes"),
    (("voice", 1, 2, 3, False), "voice 1 2 3 no"),
    (("hand", 0, 1, 3, 0, 0, (), 0), "hand 0 1 3 0 0 0 0"),
    (("hand", 0, 1, 3, 4, 2, (), 9), "hand 0 1 3 4 2 9 0"),
    (("hand", 0, 1, 3, 4, 2, (FIVE[0],), 9), "hand 0 1 3 4 2 9 1 1 open"),
    (
        ("hand", 2, 1, 3, 4, 1, FIVE, 6),
        "hand 2 1 3 4 1 6 5 1 open 2 wish bob 1 set x -5 2 wish bob 2 add x 7 2 wish al 1 get y 3 seats 3 0 3 8",
    ),
    (("pack", 0, 1, 2, (1, 1, (5,), ((), ()))), "pack 0 1 2 1 1 1 5 0 0"),
    (
        ("pack", 3, 1, 2, (7, 2, tuple(range(9)), STORE)),
        "pack 3 1 2 7 2 9 0 1 2 3 4 5 6 7 8 3 a 1 ab -2 b 0 2 al 1 0 bob 3 -7",
    ),
    (("pack", 3, 1, 2, (7, 2, (0, 1), ((), STORE[1]))), "pack 3 1 2 7 2 2 0 1 0 2 al 1 0 bob 3 -7"),
    (("pack", 3, 1, 2, (7, 2, (0, 1), (STORE[0], ()))), "pack 3 1 2 7 2 2 0 1 3 a 1 ab -2 b 0 0"),
    (("held", 4, 5, 6, True, 0), "held 4 5 6 yes 0"),
    (("held", 4, 5, 6, False, 10), "held 4 5 6 no 10"),
    (("wish", "abcdefgh", 0, 1, ("set", "z", 0)), "wish abcdefgh 0 1 set z 0"),
    (("wish", "a", 8, 20, ("add", "none", -30)), "wish a 8 20 add none -30"),
    (("wish", "yes", 8, 20, ("get", "abcdefgh")), "wish yes 8 20 get abcdefgh"),
    (("wish", "a", 0, 1, ("set", "b", SIXTY)), "wish a 0 1 set b " + "9" * 60),
    (("wish", "a", 0, 1, ("set", "b", -SIXTY)), "wish a 0 1 set b -" + "9" * 60),
    (("told", 0, "a", 1, -1), "told 0 a 1 -1"),
    (("told", 8, "zzzzzzzz", 100, 0), "told 8 zzzzzzzz 100 0"),
    (("away", 0, "a", 1, None), "away 0 a 1 none"),
    (("away", 0, "a", 1, 0), "away 0 a 1 0"),
    (("away", 7, "none", 3, 8), "away 7 none 3 8"),
]


def spoilt_part(part):
    """Things in the place of a part that are of its form but for one kind."""
    if isinstance(part, bool):
        return [int(part)]
    if isinstance(part, int):
        return [bool(part), str(part), (part,)]
    if isinstance(part, tuple):
        return [list(part)]
    if isinstance(part, str):
        return [[part], (part,), list(part)]
    return [False]


def spoilt(thing):
    """All that comes of spoiling one part of a thing, at whatever depth, or the thing itself."""
    things = spoilt_part(thing)
    if isinstance(thing, tuple):
        for at, part in enumerate(thing):
            for other in spoilt(part):
                things.append(thing[:at] + (other,) + thing[at + 1:])
    return things


def with_part(thing, at, part):
    return thing[:at] + (part,) + thing[at + 1:]


def deep(make, depth):
    """A thing within a thing within a thing, and so on."""
    thing = None
    for turn in range(depth):
        thing = make([thing])
    return thing


class Sealed:
    """What an entry may hold: a thing that fails when it is looked at."""

    def fail(self, *things):
        raise AssertionError("what an entry holds was looked at")

    __eq__ = __ne__ = __lt__ = __hash__ = __len__ = __getitem__ = __iter__ = __bool__ = fail


def entries_of(terms, mark="own"):
    """Entries of these terms, each holding a thing of its own."""
    return tuple((term, (mark, at)) for at, term in enumerate(terms))


def small_rows():
    """All rows of up to three entries of the terms 1 to 3, with three bases."""
    for base, last in ((0, 0), (1, 1), (4, 2)):
        for many in range(4):
            for terms in itertools.product((1, 2, 3), repeat=many):
                yield (base, last, entries_of(terms))


def placed(row):
    """The entries of a row by their places, counted one by one."""
    by_place, place = {}, row[0]
    for entry in row[2]:
        place += 1
        by_place[place] = entry
    return by_place


EMPTY = (0, 0, ())
PACKED = (6, 3, ())
PLAIN = (0, 0, entries_of((1, 1, 2, 5)))
BASED = (6, 3, entries_of((3, 4, 4)))
FAR = (HUGE, HUGE, entries_of((HUGE, HUGE + 1)))


def some_seats(many):
    """All seats of the first so many keepers."""
    return [seats for size in range(1, many + 1) for seats in itertools.combinations(range(many), size)]
