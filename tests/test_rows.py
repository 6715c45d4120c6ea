import unittest

from keeplog.errors import NoPlace
from keeplog.rows import agrees, as_new, begun, behind, end_of, entry_at, newness, term_at
from tests.samples import BASED, EMPTY, FAR, HUGE, PACKED, PLAIN, Sealed, placed, small_rows


class Ends(unittest.TestCase):
    def test_the_row_begun(self):
        self.assertEqual(begun(), (0, 0, ()))
        self.assertIsInstance(begun(), tuple)
        self.assertIsInstance(begun()[2], tuple)

    def test_the_end(self):
        for row, end in ((EMPTY, 0), (PACKED, 6), (PLAIN, 4), (BASED, 9), (FAR, HUGE + 2)):
            self.assertEqual(end_of(row), end)

    def test_the_end_is_the_place_of_the_last_entry(self):
        for row in small_rows():
            self.assertEqual(end_of(row), max(placed(row), default=row[0]))


class Places(unittest.TestCase):
    def test_the_term_at_base_at_the_end_and_between(self):
        self.assertEqual(term_at(EMPTY, 0), 0)
        self.assertEqual(term_at(PACKED, 6), 3)
        self.assertEqual([term_at(PLAIN, place) for place in range(5)], [0, 1, 1, 2, 5])
        self.assertEqual([term_at(BASED, place) for place in range(6, 10)], [3, 3, 4, 4])
        self.assertEqual([term_at(FAR, HUGE + more) for more in range(3)], [HUGE, HUGE, HUGE + 1])

    def test_the_entry_behind_base_at_the_end_and_between(self):
        self.assertEqual([entry_at(PLAIN, place) for place in range(1, 5)], list(PLAIN[2]))
        self.assertEqual([entry_at(BASED, place) for place in range(7, 10)], list(BASED[2]))
        self.assertEqual(entry_at(FAR, HUGE + 2), FAR[2][1])

    def test_other_places_are_refused(self):
        for row, places in (
            (EMPTY, (-1, 1, 2, HUGE, -HUGE)),
            (PACKED, (-1, 0, 3, 5, 7, HUGE)),
            (PLAIN, (-1, -2, -4, -5, 5, 6, HUGE, -HUGE)),
            (BASED, (-1, 0, 1, 5, 10, 11, HUGE)),
            (FAR, (0, 1, HUGE - 1, HUGE + 3)),
        ):
            for place in places:
                with self.subTest(row=row, place=place):
                    self.assertRaises(NoPlace, term_at, row, place)
                    self.assertRaises(NoPlace, entry_at, row, place)
                    for many in (0, 1, HUGE):
                        self.assertRaises(NoPlace, behind, row, place, many)

    def test_there_is_no_entry_at_base(self):
        for row in (EMPTY, PACKED, PLAIN, BASED, FAR):
            self.assertRaises(NoPlace, entry_at, row, row[0])

    def test_every_place_about_every_small_row(self):
        for row in small_rows():
            by_place = placed(row)
            for place in range(-3, 10):
                if place in by_place:
                    self.assertIs(entry_at(row, place), by_place[place])
                    self.assertEqual(term_at(row, place), by_place[place][0])
                    continue
                self.assertRaises(NoPlace, entry_at, row, place)
                if place == row[0]:
                    self.assertEqual(term_at(row, place), row[1])
                else:
                    self.assertRaises(NoPlace, term_at, row, place)


class Behind(unittest.TestCase):
    def test_behind_base(self):
        self.assertEqual(behind(EMPTY, 0, 5), ())
        self.assertEqual(behind(PACKED, 6, 5), ())
        self.assertEqual(behind(PLAIN, 0, 0), ())
        self.assertEqual(behind(PLAIN, 0, 1), PLAIN[2][:1])
        self.assertEqual(behind(PLAIN, 0, 3), PLAIN[2][:3])
        self.assertEqual(behind(BASED, 6, 2), BASED[2][:2])

    def test_as_many_as_there_are_and_more(self):
        for many in (4, 5, 6, HUGE):
            self.assertEqual(behind(PLAIN, 0, many), PLAIN[2])
        for many in (1, 2, HUGE):
            self.assertEqual(behind(BASED, 8, many), BASED[2][2:])
        self.assertEqual(behind(FAR, HUGE + 1, HUGE), FAR[2][1:])

    def test_behind_the_end_is_nothing(self):
        for row in (EMPTY, PACKED, PLAIN, BASED, FAR):
            for many in (0, 1, 5, HUGE):
                self.assertEqual(behind(row, end_of(row), many), ())

    def test_fewer_than_none_is_none(self):
        for place in range(5):
            self.assertEqual(behind(PLAIN, place, -1), ())

    def test_every_place_of_every_small_row(self):
        for row in small_rows():
            by_place = placed(row)
            for place in range(row[0], end_of(row) + 1):
                for many in range(6):
                    wanted = [by_place[later] for later in range(place + 1, place + 1 + many) if later in by_place]
                    given = behind(row, place, many)
                    self.assertIsInstance(given, tuple)
                    self.assertEqual(list(given), wanted)


class Newness(unittest.TestCase):
    def test_newness(self):
        for row, pair in (
            (EMPTY, (0, 0)), (PACKED, (3, 6)), (PLAIN, (5, 4)), (BASED, (4, 9)), (FAR, (HUGE + 1, HUGE + 2)),
        ):
            self.assertEqual(newness(row), pair)
            self.assertIsInstance(newness(row), tuple)

    def test_the_same_term(self):
        for row, term, end in ((PACKED, 3, 6), (PLAIN, 5, 4), (BASED, 4, 9)):
            self.assertIs(as_new(term, end - 1, row), False)
            self.assertIs(as_new(term, end, row), True)
            self.assertIs(as_new(term, end + 1, row), True)
            self.assertIs(as_new(term, 0, row), False)
            self.assertIs(as_new(term, HUGE, row), True)

    def test_another_term_whatever_the_place(self):
        for row, term in ((PACKED, 3), (PLAIN, 5), (BASED, 4)):
            for place in (0, 1, 3, 4, 5, 6, 9, 10, HUGE):
                self.assertIs(as_new(term - 1, place, row), False)
                self.assertIs(as_new(term + 1, place, row), True)
                self.assertIs(as_new(0, place, row), False)
                self.assertIs(as_new(HUGE, place, row), True)

    def test_a_term_and_place_that_no_row_has(self):
        self.assertIs(as_new(0, 0, EMPTY), True)
        self.assertIs(as_new(0, 7, EMPTY), True)
        self.assertIs(as_new(1, 0, EMPTY), True)
        self.assertIs(as_new(0, -1, EMPTY), False)
        self.assertIs(as_new(-1, 7, EMPTY), False)
        self.assertIs(as_new(HUGE, 0, PLAIN), True)
        self.assertIs(as_new(0, HUGE, PLAIN), False)

    def test_by_the_pair_of_every_small_row(self):
        for row in small_rows():
            for last in range(5):
                for place in range(9):
                    self.assertIs(as_new(last, place, row), (last, place) >= newness(row))


class Agreeing(unittest.TestCase):
    def test_below_base_whatever_the_term(self):
        for row in (PACKED, BASED, FAR):
            for place in (0, 1, row[0] - 1, -1, -HUGE):
                for term in (0, 1, 3, 4, 9, HUGE, -1):
                    self.assertIs(agrees(row, place, term), True)
        self.assertIs(agrees(PLAIN, -1, 7), True)

    def test_at_base_at_the_end_and_between_by_the_term(self):
        for row in (EMPTY, PACKED, PLAIN, BASED, FAR):
            for place in [row[0] + more for more in range(len(row[2]) + 1)]:
                term = term_at(row, place)
                self.assertIs(agrees(row, place, term), True)
                for other in (term - 1, term + 1, term + HUGE, -1):
                    self.assertIs(agrees(row, place, other), False)

    def test_above_the_end_never(self):
        for row in (EMPTY, PACKED, PLAIN, BASED, FAR):
            end = end_of(row)
            for place in (end + 1, end + 2, end + HUGE):
                for term in (0, 1, term_at(row, end), term_at(row, end) + 1, HUGE, -1):
                    self.assertIs(agrees(row, place, term), False)

    def test_everywhere_about_every_small_row(self):
        for row in small_rows():
            terms = {place: entry[0] for place, entry in placed(row).items()}
            terms[row[0]] = row[1]
            for place in range(-1, 10):
                for last in range(5):
                    wanted = place < row[0] or terms.get(place) == last
                    self.assertIs(agrees(row, place, last), wanted)


class NothingButTheTerm(unittest.TestCase):
    def test_what_an_entry_holds_is_not_looked_at(self):
        row = (2, 1, ((1, Sealed()), (4, Sealed())))
        self.assertEqual(end_of(row), 4)
        self.assertEqual(term_at(row, 3), 1)
        self.assertIs(entry_at(row, 4), row[2][1])
        self.assertIs(behind(row, 3, 2)[0], row[2][1])
        self.assertEqual(newness(row), (4, 4))
        self.assertIs(as_new(4, 4, row), True)
        self.assertIs(agrees(row, 4, 4), True)

    def test_a_list_that_an_entry_holds_stays_as_it_was(self):
        for held in (None, True, 7, "text", [1, [2]], (), ("seats",)):
            row = (0, 0, ((1, held),))
            self.assertIs(entry_at(row, 1)[1], held)
            self.assertEqual(behind(row, 0, 1), ((1, held),))


if __name__ == "__main__":
    unittest.main()
