import itertools
import unittest

from keeplog.errors import NoPlace
from keeplog.filling import cut_off
from keeplog.packs import first_pack, pack_at
from keeplog.stores import fresh, replayed
from keeplog.things import is_pack
from tests.keeping import THREE, add_entry, opened, seats_entry
from tests.samples import HUGE, NINE, STORE

ENTRIES = (opened(1), add_entry(1, "al", 1), seats_entry(2, 0, 1), add_entry(4, "bob", 9), seats_entry(4, 1))
ROW = (0, 0, ENTRIES)
BASED = (7, 3, ENTRIES)
PACK = (7, 3, (0, 4, 8), STORE)


class FirstPack(unittest.TestCase):
    def test_by_seats(self):
        for seats in ((0,), (8,), THREE, NINE):
            self.assertEqual(first_pack(seats), (0, 0, seats, ((), ())))
            self.assertTrue(is_pack(first_pack(seats)))


class PackAt(unittest.TestCase):
    def test_at_base_it_is_the_pack(self):
        self.assertEqual(pack_at(first_pack(THREE), ROW, 0), first_pack(THREE))
        self.assertEqual(pack_at(PACK, BASED, 7), PACK)
        self.assertEqual(pack_at(PACK, (7, 3, ()), 7), PACK)
        self.assertEqual(pack_at(first_pack((3,)), (0, 0, ()), 0), first_pack((3,)))

    def test_at_the_end(self):
        self.assertEqual(pack_at(first_pack(THREE), ROW, 5),
                         (5, 4, (1,), ((("x", 2),), (("al", 1, 1), ("bob", 9, 2)))))
        self.assertEqual(pack_at(PACK, BASED, 12), (12, 4, (1,), replayed(STORE, ENTRIES)))

    def test_between(self):
        self.assertEqual(pack_at(first_pack(THREE), ROW, 1), (1, 1, THREE, ((), ())))
        self.assertEqual(pack_at(first_pack(THREE), ROW, 2), (2, 1, THREE, ((("x", 1),), (("al", 1, 1),))))
        self.assertEqual(pack_at(PACK, BASED, 9), (9, 1, (0, 4, 8), replayed(STORE, ENTRIES[:2])))

    def test_seats_ahead_of_the_place_at_it_and_behind_it(self):
        for pack, row in ((first_pack(THREE), ROW), (PACK, BASED)):
            base = row[0]
            self.assertEqual([pack_at(pack, row, base + more)[2] for more in range(6)],
                             [pack[2], pack[2], pack[2], (0, 1), (0, 1), (1,)])

    def test_the_terms_are_those_at_the_places(self):
        self.assertEqual([pack_at(PACK, BASED, place)[1] for place in range(7, 13)], [3, 1, 1, 2, 4, 4])

    def test_below_base_and_above_the_end_is_refused(self):
        for pack, row in ((first_pack(THREE), ROW), (PACK, BASED), (PACK, (7, 3, ())), (first_pack((0,)), (0, 0, ()))):
            end = row[0] + len(row[2])
            for place in (row[0] - 1, row[0] - 2, -1, -HUGE, end + 1, end + 2, HUGE):
                self.assertRaises(NoPlace, pack_at, pack, row, place)

    def test_a_base_far_off(self):
        pack = (HUGE, HUGE, (2,), fresh())
        self.assertEqual(pack_at(pack, (HUGE, HUGE, ENTRIES), HUGE + 2), (HUGE + 2, 1, (2,), replayed(fresh(), ENTRIES[:2])))
        self.assertRaises(NoPlace, pack_at, pack, (HUGE, HUGE, ENTRIES), 2)

    def test_pack_upon_pack_is_one_pack(self):
        pool = (opened(1), add_entry(1, "al", 1), add_entry(1, "al", 2), seats_entry(1, 0, 1))
        first = first_pack(THREE)
        for entries in itertools.product(pool, repeat=4):
            row = (0, 0, entries)
            for place in range(5):
                for ahead in range(place + 1):
                    middle = pack_at(first, row, ahead)
                    self.assertEqual(pack_at(middle, cut_off(row, ahead), place), pack_at(first, row, place))

    def test_what_is_handed_in_stays(self):
        pack, row = (7, 3, (0, 4, 8), STORE), (7, 3, ENTRIES)
        given = pack_at(pack, row, 12)
        self.assertEqual((pack, row), (PACK, BASED))
        self.assertTrue(is_pack(given))


if __name__ == "__main__":
    unittest.main()
