import itertools
import unittest

from keeplog.seats import most, one_off, seats_of, seats_place
from tests.samples import HUGE, NINE, some_seats

OPEN = (1, ("open",))
WISH = (2, ("wish", "seats", 1, ("set", "seats", 5)))


def seats_entry(term, seats):
    return (term, ("seats", seats))


class Most(unittest.TestCase):
    def test_just_half_one_more_and_one_less(self):
        for seats, less, half, more in (
            ((0, 1), (), (1,), (0, 1)),
            ((0, 3, 5, 8), (3,), (3, 8), (0, 3, 8)),
            ((1, 2, 3, 4, 5, 6), (1, 6), (1, 3, 6), (1, 2, 5, 6)),
            (tuple(range(8)), (0, 1, 2), (0, 1, 2, 7), (0, 1, 2, 6, 7)),
        ):
            self.assertIs(most(seats, less), False)
            self.assertIs(most(seats, half), False)
            self.assertIs(most(seats, more), True)
            self.assertIs(most(seats, seats), True)

    def test_odd_seats(self):
        self.assertIs(most((0, 1, 2), (1,)), False)
        self.assertIs(most((0, 1, 2), (0, 2)), True)
        self.assertIs(most((0, 1, 2, 3, 4), (1, 4)), False)
        self.assertIs(most((0, 1, 2, 3, 4), (1, 2, 4)), True)

    def test_one_seat_and_nine(self):
        self.assertIs(most((4,), ()), False)
        self.assertIs(most((4,), (3,)), False)
        self.assertIs(most((4,), (4,)), True)
        self.assertIs(most((4,), NINE), True)
        self.assertIs(most(NINE, (0, 2, 4, 6)), False)
        self.assertIs(most(NINE, (0, 2, 4, 6, 8)), True)
        self.assertIs(most(NINE, ()), False)
        self.assertIs(most(NINE, NINE), True)

    def test_strangers_count_for_nothing(self):
        self.assertIs(most((0, 1, 2), (1, 3, 4, 5, 6, 7, 8)), False)
        self.assertIs(most((0, 1, 2), (3, 4, 5)), False)
        self.assertIs(most((0, 1, 2), (0, 1, 8)), True)
        self.assertIs(most((6, 7), (0, 1, 2, 7)), False)

    def test_in_whatever_order(self):
        for those in itertools.permutations((8, 0, 3)):
            self.assertIs(most((0, 3, 5, 8), those), True)
            self.assertIs(most((0, 1, 3, 5, 6, 8), those), False)

    def test_all_of_five_keepers(self):
        for seats in some_seats(5):
            for those in [()] + some_seats(5):
                self.assertIs(most(seats, those), len(set(seats) & set(those)) > len(set(seats) - set(those)))


class OneOff(unittest.TestCase):
    def test_one_number_more_and_one_less(self):
        for fewer, more in (
            ((0,), (0, 1)), ((1,), (0, 1)), ((1, 2), (0, 1, 2)), ((0, 2), (0, 1, 2)), ((0, 1), (0, 1, 8)), (NINE[1:], NINE),
            (NINE[:8], NINE), (NINE[:4] + NINE[5:], NINE),
        ):
            self.assertIs(one_off(fewer, more), True)
            self.assertIs(one_off(more, fewer), True)

    def test_one_in_the_place_of_another(self):
        for seats, others in (((0,), (1,)), ((0, 1), (0, 2)), ((0, 1, 2), (1, 2, 3)), (NINE[1:], NINE[:8])):
            self.assertIs(one_off(seats, others), False)
            self.assertIs(one_off(others, seats), False)

    def test_the_same_seats(self):
        for seats in ((0,), (8,), (0, 1), (2, 5, 7), NINE):
            self.assertIs(one_off(seats, seats), False)
            self.assertIs(one_off(seats, tuple(list(seats))), False)

    def test_two_off(self):
        for seats, others in (((0,), (0, 1, 2)), ((0, 1), (0, 1, 2, 3)), (NINE[2:], NINE), (NINE[1:8], NINE)):
            self.assertIs(one_off(seats, others), False)
            self.assertIs(one_off(others, seats), False)

    def test_one_more_and_two_less(self):
        for seats, others in (((0, 1, 2), (0, 3)), ((0, 1), (2,)), ((0, 1, 2, 3), (1, 2, 8))):
            self.assertIs(one_off(seats, others), False)
            self.assertIs(one_off(others, seats), False)

    def test_all_of_four_keepers(self):
        for seats in some_seats(4):
            for others in some_seats(4):
                more, less = set(seats) - set(others), set(others) - set(seats)
                self.assertIs(one_off(seats, others), (len(more), len(less)) in ((1, 0), (0, 1)))


class InForce(unittest.TestCase):
    def holds(self, row, seats, place):
        self.assertEqual(seats_of(row, (0, 1, 2)), seats)
        self.assertIsInstance(seats_of(row, (0, 1, 2)), tuple)
        self.assertEqual(seats_place(row), place)

    def test_no_entry_that_holds_seats(self):
        for entries in ((), (OPEN,), (OPEN, WISH, WISH)):
            self.holds((0, 0, entries), (0, 1, 2), 0)
            self.holds((7, 2, entries), (0, 1, 2), 7)
            self.holds((HUGE, 2, entries), (0, 1, 2), HUGE)

    def test_one_wherever_it_stands(self):
        entry = seats_entry(1, (0, 1))
        for base in (0, 1, 7, HUGE):
            last = 1 if base else 0
            self.holds((base, last, (entry,)), (0, 1), base + 1)
            self.holds((base, last, (entry, OPEN, WISH)), (0, 1), base + 1)
            self.holds((base, last, (OPEN, entry, WISH)), (0, 1), base + 2)
            self.holds((base, last, (OPEN, WISH, entry)), (0, 1), base + 3)

    def test_the_last_of_several(self):
        first, second, third = seats_entry(1, (0, 1)), seats_entry(1, (0,)), seats_entry(2, (0, 1))
        for base in (0, 7):
            last = 1 if base else 0
            self.holds((base, last, (first, second)), (0,), base + 2)
            self.holds((base, last, (first, second, OPEN, WISH)), (0,), base + 2)
            self.holds((base, last, (first, OPEN, second, WISH, third)), (0, 1), base + 5)
            self.holds((base, last, (OPEN, first, second, third, WISH, OPEN)), (0, 1), base + 4)

    def test_the_last_by_place_and_not_by_term(self):
        self.holds((0, 0, (seats_entry(9, (5,)), seats_entry(1, (6,)))), (6,), 2)

    def test_the_first_seats_may_be_any(self):
        for first in ((0,), (8,), (2, 5), NINE):
            self.assertEqual(seats_of((0, 0, (OPEN,)), first), first)
            self.assertEqual(seats_of((0, 0, (seats_entry(1, (3,)),)), first), (3,))

    def test_the_same_seats_as_the_first_have_their_own_place(self):
        self.holds((4, 1, (OPEN, seats_entry(1, (0, 1, 2)), OPEN)), (0, 1, 2), 6)

    def test_a_caller_and_a_name_called_seats_are_none(self):
        self.holds((0, 0, (seats_entry(1, (4,)), WISH)), (4,), 1)


if __name__ == "__main__":
    unittest.main()
