import itertools
import unittest

from keeplog.counting import holders, meeting, reached
from tests.samples import HUGE, NINE, some_seats

NONE_HELD = (0,) * 9


def is_most(seats, those):
    return 2 * len(set(seats) & set(those)) > len(seats)


def tuples_of(seats, strangers):
    """All tuples that are just most of the seats, and these with strangers too."""
    least = len(seats) // 2 + 1
    for those in itertools.combinations(seats, least):
        yield those
        yield tuple(sorted(those + tuple(number for number in strangers if number not in seats)))


class Reached(unittest.TestCase):
    def test_one_seat(self):
        held = (3, 0, 7, 1, 1, 1, 1, 1, HUGE)
        for seat in range(9):
            self.assertEqual(reached((seat,), held), held[seat])

    def test_nine_seats(self):
        self.assertEqual(reached(NINE, (9, 8, 7, 6, 5, 4, 3, 2, 1)), 5)
        self.assertEqual(reached(NINE, (1, 1, 1, 1, 1, 9, 9, 9, 9)), 1)
        self.assertEqual(reached(NINE, (1, 1, 1, 1, 9, 9, 9, 9, 9)), 9)
        self.assertEqual(reached(NINE, (0, 0, 0, 0, 0, 9, 9, 9, 9)), 0)

    def test_all_places_nought(self):
        for seats in some_seats(4) + [NINE]:
            self.assertEqual(reached(seats, NONE_HELD), 0)

    def test_just_half_is_not_enough(self):
        self.assertEqual(reached((0, 1), (4, 2) + NONE_HELD[2:]), 2)
        self.assertEqual(reached((0, 1, 2, 3), (4, 4, 1, 0) + NONE_HELD[4:]), 1)
        self.assertEqual(reached((0, 1, 2, 3), (4, 4, 0, 0) + NONE_HELD[4:]), 0)
        self.assertEqual(reached((0, 1, 2, 3), (4, 4, 3, 0) + NONE_HELD[4:]), 3)

    def test_strangers_hold_for_nothing(self):
        self.assertEqual(reached((0, 1, 2), (5, 1, 0, 9, 9, 9, 9, 9, 9)), 1)
        self.assertEqual(reached((2, 5, 8), (9, 9, 4, 9, 9, 6, 9, 9, 2)), 4)

    def test_places_of_any_size(self):
        self.assertEqual(reached((0, 1, 2), (HUGE, HUGE + 1, HUGE + 2) + NONE_HELD[3:]), HUGE + 1)
        self.assertEqual(reached((0, 1, 2), (0, 0, HUGE) + NONE_HELD[3:]), 0)

    def test_nought_at_least(self):
        self.assertEqual(reached((0, 1, 2), (-3, -2, -1) + NONE_HELD[3:]), 0)
        self.assertEqual(reached((), NONE_HELD), 0)

    def test_it_is_the_greatest_that_most_hold(self):
        for first in itertools.product(range(4), repeat=4):
            held = first + (9,) * 5
            for seats in some_seats(4):
                places = [place for place in range(10) if is_most(seats, [seat for seat in seats if held[seat] >= place])]
                self.assertEqual(reached(seats, held), max(places))


class Holders(unittest.TestCase):
    HELD = (3, 0, 7, 3, 2, 4, 0, 1, HUGE)

    def test_of_a_place_and_of_those_beside_it(self):
        self.assertEqual(holders(NINE, self.HELD, 3), (0, 2, 3, 5, 8))
        self.assertEqual(holders(NINE, self.HELD, 2), (0, 2, 3, 4, 5, 8))
        self.assertEqual(holders(NINE, self.HELD, 4), (2, 5, 8))

    def test_of_the_place_that_is_reached_and_of_the_next(self):
        for seats in some_seats(5) + [NINE]:
            place = reached(seats, self.HELD)
            self.assertTrue(is_most(seats, holders(seats, self.HELD, place)))
            self.assertFalse(is_most(seats, holders(seats, self.HELD, place + 1)))

    def test_nought_is_held_by_all_of_the_seats(self):
        for seats in some_seats(4) + [NINE]:
            self.assertEqual(holders(seats, self.HELD, 0), seats)
            self.assertEqual(holders(seats, NONE_HELD, 0), seats)
            self.assertEqual(holders(seats, NONE_HELD, 1), ())

    def test_of_the_seats_alone(self):
        self.assertEqual(holders((0, 1, 4), self.HELD, 3), (0,))
        self.assertEqual(holders((1, 6), self.HELD, 1), ())
        self.assertEqual(holders((8,), self.HELD, HUGE), (8,))
        self.assertEqual(holders((8,), self.HELD, HUGE + 1), ())

    def test_a_tuple_rising(self):
        for seats in some_seats(5) + [NINE]:
            for place in range(9):
                given = holders(seats, self.HELD, place)
                self.assertIsInstance(given, tuple)
                self.assertEqual(given, tuple(sorted(set(seats) - {seat for seat in seats if self.HELD[seat] < place})))


class Meeting(unittest.TestCase):
    def meets(self, seats, those, others, these):
        common = set(seats) & set(those) & set(others) & set(these)
        given = meeting(seats, those, others, these)
        self.assertEqual(given, min(common, default=None))
        return given

    def test_the_same_seats(self):
        self.assertEqual(meeting((0, 1, 2), (0, 1), (0, 1, 2), (1, 2)), 1)
        self.assertEqual(meeting((0, 1, 2), (0, 1, 2), (0, 1, 2), (0, 1, 2)), 0)
        self.assertEqual(meeting((4,), (4,), (4,), (4,)), 4)
        self.assertEqual(meeting(NINE, NINE[:5], NINE, NINE[4:]), 4)

    def test_one_off(self):
        self.assertEqual(meeting((0, 1), (0, 1), (0, 1, 2), (1, 2)), 1)
        self.assertEqual(meeting((0, 1, 2), (0, 2), (0, 2), (0, 2)), 0)
        self.assertEqual(meeting(NINE[:8], NINE[:5], NINE, NINE[4:]), 4)
        self.assertEqual(meeting((3,), (3,), (3, 8), (3, 8)), 3)

    def test_there_is_one_always(self):
        for seats in some_seats(4):
            for others in some_seats(4):
                if len(set(seats) ^ set(others)) > 1:
                    continue
                for those in tuples_of(seats, range(4)):
                    for these in tuples_of(others, range(4)):
                        self.assertIsNotNone(self.meets(seats, those, others, these))

    def test_nine_seats_and_eight(self):
        for those in itertools.combinations(NINE, 5):
            for these in itertools.combinations(NINE[1:], 5):
                self.assertIsNotNone(self.meets(NINE, those, NINE[1:], these))

    def test_in_all_four(self):
        # In each of these rows one of the four lacks the number 0, and all have 3.
        all_four = ((0, 3, 5), (0, 3, 7), (0, 3, 6), (0, 3, 8))
        self.assertEqual(self.meets(*all_four), 0)
        for at in range(4):
            parts = [part[1:] if at == own else part for own, part in enumerate(all_four)]
            self.assertEqual(self.meets(*parts), 3)

    def test_none_where_there_is_none(self):
        self.assertIsNone(meeting((0, 1), (0, 1), (2, 3), (2, 3)))
        self.assertIsNone(meeting((0, 1, 2), (0,), (0, 1, 2), (1, 2)))
        self.assertIsNone(meeting((0, 1, 2), (), (0, 1, 2), ()))
        self.assertIsNone(meeting((0, 1), (0, 5), (0, 1), (1, 5)))
        self.assertIsNone(meeting((0, 1), (0, 2), (1, 2), (0, 2)))
        self.assertIsNone(meeting((0, 1, 2), (0, 1), (2, 3), (2, 3)))

    def test_other_seats_and_tuples(self):
        sets = [(), (0,), (1,), (0, 1), (1, 2), (0, 2, 3), NINE]
        for four in itertools.product(sets, repeat=4):
            self.meets(*four)

    def test_the_least_whatever_the_order(self):
        for those in itertools.permutations((2, 5, 7)):
            for these in itertools.permutations((1, 5, 7)):
                self.assertEqual(meeting(NINE, those, NINE, these), 5)


if __name__ == "__main__":
    unittest.main()
