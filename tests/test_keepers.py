import unittest

from keeplog.keepers import Keeper, seats_now
from tests.keeping import KEPT, LOST, THREE, WholeState, add_entry, head_with, keeper_with, nine, opened, seats_entry, values_of
from tests.samples import HUGE, NINE, STORE

PACK = (7, 3, (0, 4, 8), STORE)
ROW = (7, 3, (opened(3), add_entry(4, "al", 1), seats_entry(4, 0, 4)))
OTHER_STORE = ((("y", 1),), ())

# Each value that waking loses, and one that it may have had.
CHANGED = {
    "way": "head", "voices": (0, 4), "nexts": nine(9, 8, 7), "held": nine(1, 2, 3), "agreed": 9, "store": OTHER_STORE, "head": 4,
    "waits": (("al", 1, 9),),
}


class Begins(unittest.TestCase, WholeState):
    def test_a_keeper_that_begins(self):
        for number in range(9):
            for seats in ((0,), (8,), THREE, NINE):
                keeper = Keeper(number, seats)
                self.has(keeper, {
                    "number": number, "term": 0, "voice": None, "pack": (0, 0, seats, ((), ())), "row": (0, 0, ()),
                    "way": "plain", "voices": (), "nexts": (1,) * 9, "held": (0,) * 9, "agreed": 0, "store": ((), ()),
                    "head": None, "waits": (),
                })

    def test_it_has_what_is_told_and_keepers_share_nothing(self):
        self.assertEqual(len(KEPT + LOST), 13)
        one, other = Keeper(0, THREE), Keeper(0, THREE)
        ahead = values_of(other)
        one.hear(5)
        one.row = ROW
        one.wake()
        self.has(other, ahead)


class Wakes(unittest.TestCase, WholeState):
    def woken(self, **values):
        keeper = keeper_with(4, THREE, term=6, voice=2, pack=PACK, row=ROW, **values)
        self.assertIsNone(keeper.wake())
        return keeper

    WOKEN = {
        "number": 4, "term": 6, "voice": 2, "pack": PACK, "row": ROW, "way": "plain", "voices": (), "nexts": (11,) * 9,
        "held": (0,) * 9, "agreed": 7, "store": STORE, "head": None, "waits": (),
    }

    def test_behind_a_change_of_each_value_that_waking_loses(self):
        self.assertEqual(tuple(CHANGED), LOST)
        for name, value in CHANGED.items():
            self.has(self.woken(**{name: value}), self.WOKEN)
        self.has(self.woken(**CHANGED), self.WOKEN)
        self.has(self.woken(way="standing"), self.WOKEN)

    def test_twice_is_once(self):
        keeper = self.woken(**CHANGED)
        keeper.wake()
        self.has(keeper, self.WOKEN)

    def test_what_is_kept(self):
        for name, value in (("term", 0), ("term", HUGE), ("voice", None), ("voice", 0), ("voice", 4)):
            keeper = keeper_with(4, THREE, **{"term": 6, "voice": 2, "pack": PACK, "row": ROW, **CHANGED, name: value})
            keeper.wake()
            self.has(keeper, self.WOKEN, **{name: value})

    def test_next_places_are_its_end_and_1(self):
        for row, following in (((0, 0, ()), 1), ((0, 0, (opened(1),)), 2), ((0, 0, (opened(1),) * 6), 7)):
            keeper = keeper_with(1, THREE, term=1, row=row)
            keeper.wake()
            self.assertEqual(keeper.nexts, (following,) * 9)
            self.assertEqual((keeper.agreed, keeper.store), (0, ((), ())))
        keeper = keeper_with(1, THREE, term=HUGE, pack=(HUGE, 2, THREE, STORE), row=(HUGE, 2, ()))
        keeper.wake()
        self.assertEqual((keeper.nexts, keeper.agreed, keeper.store), ((HUGE + 1,) * 9, HUGE, STORE))


class Hears(unittest.TestCase, WholeState):
    def keepers(self):
        entries = (opened(1), add_entry(5, "al", 1))
        plain = keeper_with(1, THREE, term=5, voice=2, head=2, row=(0, 0, entries), agreed=1, nexts=nine(3, 3), held=nine(1, 2))
        standing = keeper_with(1, THREE, term=5, voice=1, way="standing", voices=(1, 2), row=(0, 0, entries), agreed=1)
        head = head_with(1, THREE, 5, entries, voices=(0, 1), agreed=1, held=nine(2, 0, 1), waits=(("al", 1, 2),),
                         store=OTHER_STORE)
        return (plain, standing, head)

    def test_less_and_the_same_change_nothing(self):
        for term in (-1, 0, 1, 4, 5):
            for keeper in self.keepers():
                ahead = values_of(keeper)
                self.assertIsNone(keeper.hear(term))
                self.has(keeper, ahead)

    def test_a_greater_one(self):
        for term in (6, 7, HUGE):
            for keeper in self.keepers():
                ahead = values_of(keeper)
                self.assertIsNone(keeper.hear(term))
                self.has(keeper, ahead, term=term, voice=None, way="plain", voices=(), head=None, waits=())

    def test_of_one_that_has_begun(self):
        keeper = Keeper(3, THREE)
        ahead = values_of(keeper)
        keeper.hear(0)
        self.has(keeper, ahead)
        keeper.hear(1)
        self.has(keeper, ahead, term=1)

    def test_each_voice_is_lost(self):
        for voice in range(9):
            keeper = keeper_with(0, THREE, term=2, voice=voice, head=voice)
            keeper.hear(2)
            self.assertEqual((keeper.voice, keeper.head), (voice, voice))
            keeper.hear(3)
            self.assertEqual((keeper.voice, keeper.head), (None, None))


class SeatsNow(unittest.TestCase):
    def test_the_packs_where_the_row_holds_none(self):
        for seats in ((0,), THREE, NINE):
            self.assertEqual(seats_now(Keeper(1, seats)), seats)
            self.assertEqual(seats_now(keeper_with(1, seats, row=(0, 0, (opened(1), add_entry(1, "seats", 1))))), seats)
        self.assertEqual(seats_now(keeper_with(1, THREE, pack=PACK, row=(7, 3, (opened(3),)))), (0, 4, 8))

    def test_the_last_of_the_row_agreed_or_not(self):
        for agreed in (7, 8, 10):
            self.assertEqual(seats_now(keeper_with(1, THREE, pack=PACK, row=ROW, agreed=agreed)), (0, 4))
        row = (0, 0, (seats_entry(1, 0, 1), opened(2), seats_entry(2, 0), opened(3)))
        self.assertEqual(seats_now(keeper_with(1, THREE, row=row)), (0,))

    def test_asking_changes_nothing(self):
        keeper = keeper_with(1, THREE, pack=PACK, row=ROW)
        ahead = values_of(keeper)
        seats_now(keeper)
        self.assertEqual(values_of(keeper), ahead)


if __name__ == "__main__":
    unittest.main()
