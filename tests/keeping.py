"""Keepers in a state of the test's own making, and all that a keeper has, to be compared as a whole."""

import copy

from keeplog.keepers import Keeper
from keeplog.things import is_letter

KEPT = ("number", "term", "voice", "pack", "row")
LOST = ("way", "voices", "nexts", "held", "agreed", "store", "head", "waits")
THREE = (0, 1, 2)


def values_of(keeper):
    return {name: getattr(keeper, name) for name in KEPT + LOST}


def keeper_with(number, seats, **values):
    """A keeper that has begun, but for these values."""
    keeper = Keeper(number, seats)
    for name, value in values.items():
        assert name in KEPT + LOST, name
        setattr(keeper, name, value)
    return keeper


def head_with(number, seats, term, entries, **values):
    """A head of a term, with such a row from place 1 on, that gave its voice to itself."""
    own = {"term": term, "voice": number, "voices": (number,), "way": "head", "head": number, "row": (0, 0, entries),
           "nexts": (len(entries) + 1,) * 9}
    own.update(values)
    return keeper_with(number, seats, **own)


def twin_of(keeper):
    return copy.deepcopy(keeper)


def nine(*places):
    """Nine places, of which the first ones are told."""
    return places + (0,) * (9 - len(places))


def opened(term):
    return (term, ("open",))


def seats_entry(term, *seats):
    return (term, ("seats", seats))


def wish_entry(term, caller, number, deed):
    return (term, ("wish", caller, number, deed))


def add_entry(term, caller, number, name="x", value=1):
    return wish_entry(term, caller, number, ("add", name, value))


def on_all_ways(term):
    """A keeper that is plain, one that takes another for head, one that is standing, and one that is head."""
    entries = (opened(1), add_entry(term, "al", 1))
    row = (0, 0, entries)
    return (
        keeper_with(0, THREE, term=term, row=row),
        keeper_with(0, THREE, term=term, row=row, voice=2, head=2),
        keeper_with(0, THREE, term=term, row=row, voice=0, way="standing", voices=(0,)),
        head_with(0, THREE, term, entries, waits=(("al", 1, 2),), nexts=nine(3, 2, 2), held=nine(0, 1, 0), agreed=1),
    )


class WholeState:
    """For a test case: what a keeper has is looked at as a whole, so that nothing changes unseen."""

    def gives(self, given, letters):
        self.assertEqual(given, list(letters))
        self.assertIsInstance(given, list)
        for letter in given:
            self.assertTrue(is_letter(letter), letter)

    def takes_so(self, take, keeper, letter, letters, **changes):
        """Takes a letter, or whatever else: what is written, and what changes by that, and nothing else."""
        ahead = values_of(keeper)
        self.gives(take(keeper, letter), letters)
        self.has(keeper, ahead, **changes)

    def has(self, keeper, ahead, **changes):
        wanted = dict(ahead)
        wanted.update(changes)
        self.assertEqual(values_of(keeper), wanted)
        for name in ("pack", "row", "voices", "nexts", "held", "store", "waits"):
            self.assertIsInstance(getattr(keeper, name), tuple, name)
        self.assertEqual((len(keeper.nexts), len(keeper.held)), (9, 9))
