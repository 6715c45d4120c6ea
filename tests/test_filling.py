import copy
import itertools
import unittest

from keeplog.errors import NoPlace
from keeplog.filling import cut_off, filled, put, taken_over
from keeplog.rows import begun, end_of
from tests.samples import BASED, EMPTY, FAR, HUGE, PACKED, PLAIN, Sealed, entries_of, placed, small_rows

ROWS = (EMPTY, PACKED, PLAIN, BASED, FAR)


def row_of(base, last, by_place):
    """The row of a base, a term there, and entries by their places, which have no gap."""
    places = sorted(by_place)
    assert places == list(range(base + 1, base + 1 + len(places)))
    return (base, last, tuple(by_place[place] for place in places))


def filled_slowly(row, place, entries):
    """A row filled as the document tells it, place by place."""
    by_place = placed(row)
    going = False
    for at, entry in enumerate(entries, start=place + 1):
        if at <= row[0]:
            continue
        if not going and (at not in by_place or by_place[at][0] != entry[0]):
            going = True
            by_place = {own: by_place[own] for own in by_place if own < at}
        if going:
            by_place[at] = entry
    return row_of(row[0], row[1], by_place)


class Put(unittest.TestCase):
    def test_an_entry_more_at_the_end(self):
        self.assertEqual(put(EMPTY, (1, ("open",))), (0, 0, ((1, ("open",)),)))
        self.assertEqual(put(PACKED, (3, ("open",))), (6, 3, ((3, ("open",)),)))
        self.assertEqual(put(BASED, (9, "x")), (6, 3, BASED[2] + ((9, "x"),)))
        self.assertEqual(put(FAR, (1, "x")), (HUGE, HUGE, FAR[2] + ((1, "x"),)))

    def test_one_behind_the_other(self):
        self.assertEqual(put(put(begun(), (1, "a")), (2, "b")), (0, 0, ((1, "a"), (2, "b"))))

    def test_whatever_it_holds(self):
        for held in (None, True, 7, "text", [1, [2]], (), ("seats",), Sealed()):
            given = put(EMPTY, (1, held))
            self.assertIs(given[2][0][1], held)


class Filled(unittest.TestCase):
    def test_from_above_the_end_is_refused(self):
        for row in ROWS:
            for more in (1, 2, HUGE):
                for entries in ((), entries_of((1,)), entries_of((1, 2, 3))):
                    self.assertRaises(NoPlace, filled, row, end_of(row) + more, entries)

    def test_no_entries_change_nothing(self):
        for row in ROWS:
            for place in (0, row[0], end_of(row)):
                self.assertEqual(filled(row, place, ()), row)

    def test_at_the_end_all_come(self):
        more = entries_of((7, 8), "new")
        for row in ROWS:
            self.assertEqual(filled(row, end_of(row), more), (row[0], row[1], row[2] + more))

    def test_entries_up_to_base_are_passed_over(self):
        come = entries_of((9, 9, 9, 4, 4), "new")
        self.assertEqual(filled(PACKED, 3, come), (6, 3, come[3:]))
        self.assertEqual(filled(PACKED, 4, come[:2]), PACKED)
        self.assertEqual(filled(PACKED, 3, come[:2]), PACKED)
        self.assertEqual(filled(PACKED, 0, come), PACKED)
        self.assertEqual(filled(BASED, 3, entries_of((9, 9, 9, 3, 4), "new")), BASED)
        self.assertEqual(filled(BASED, 3, entries_of((9, 9, 9, 3, 5), "new")), (6, 3, BASED[2][:1] + ((5, ("new", 4)),)))
        self.assertEqual(filled(FAR, 0, come), FAR)

    def test_all_of_the_same_terms(self):
        self.assertEqual(filled(PLAIN, 0, entries_of((1, 1, 2, 5), "new")), PLAIN)
        self.assertEqual(filled(BASED, 6, entries_of((3, 4, 4), "new")), BASED)

    def test_fewer_than_the_row_has(self):
        self.assertEqual(filled(PLAIN, 0, entries_of((1, 1), "new")), PLAIN)
        self.assertEqual(filled(PLAIN, 1, entries_of((1, 2), "new")), PLAIN)
        self.assertEqual(filled(BASED, 7, entries_of((4,), "new")), BASED)

    def test_more_than_the_row_has(self):
        come = entries_of((2, 5, 5, 6), "new")
        self.assertEqual(filled(PLAIN, 2, come), (0, 0, PLAIN[2] + come[2:]))

    def test_a_first_other_term_in_the_middle(self):
        come = entries_of((1, 3, 3), "new")
        self.assertEqual(filled(PLAIN, 1, come), (0, 0, PLAIN[2][:2] + come[1:]))
        self.assertEqual(filled(PLAIN, 1, come[:2]), (0, 0, PLAIN[2][:2] + come[1:2]))
        self.assertEqual(filled(PLAIN, 0, come[1:2]), (0, 0, come[1:2]))

    def test_behind_the_first_other_term_the_own_ones_go_though_of_the_same_term(self):
        come = entries_of((4, 1, 2, 5), "new")
        self.assertEqual(filled(PLAIN, 0, come), (0, 0, come))

    def test_another_term_is_another_whether_greater_or_smaller(self):
        for term in (1, 4, 6, HUGE):
            self.assertEqual(filled(PLAIN, 3, ((term, "new"),)), (0, 0, PLAIN[2][:3] + ((term, "new"),)))

    def test_the_own_entry_stays_where_the_terms_are_the_same(self):
        own, new = (1, Sealed()), (1, Sealed())
        more = (2, Sealed())
        given = filled((0, 0, (own,)), 0, (new, more))
        self.assertIs(given[2][0], own)
        self.assertIs(given[2][1], more)
        self.assertEqual(len(given[2]), 2)

    def test_every_small_row_with_all_few_entries(self):
        comings = [entries_of(terms, "new") for many in range(5) for terms in itertools.product((1, 2), repeat=many)]
        for row in small_rows():
            for place in range(end_of(row) + 3):
                for come in comings:
                    if place > end_of(row):
                        self.assertRaises(NoPlace, filled, row, place, come)
                    else:
                        self.assertEqual(filled(row, place, come), filled_slowly(row, place, come))


class CutOff(unittest.TestCase):
    def test_at_base_the_row_is_as_it_was(self):
        for row in ROWS:
            self.assertEqual(cut_off(row, row[0]), row)

    def test_at_the_end_nothing_stands_behind(self):
        self.assertEqual(cut_off(PLAIN, 4), (4, 5, ()))
        self.assertEqual(cut_off(BASED, 9), (9, 4, ()))
        self.assertEqual(cut_off(FAR, HUGE + 2), (HUGE + 2, HUGE + 1, ()))

    def test_between(self):
        self.assertEqual(cut_off(PLAIN, 1), (1, 1, PLAIN[2][1:]))
        self.assertEqual(cut_off(PLAIN, 3), (3, 2, PLAIN[2][3:]))
        self.assertEqual(cut_off(BASED, 7), (7, 3, BASED[2][1:]))
        self.assertEqual(cut_off(BASED, 8), (8, 4, BASED[2][2:]))

    def test_below_base_and_above_the_end_is_refused(self):
        for row in ROWS:
            for place in (row[0] - 1, row[0] - 2, -1, end_of(row) + 1, end_of(row) + 2, end_of(row) + HUGE):
                self.assertRaises(NoPlace, cut_off, row, place)

    def test_every_place_of_every_small_row(self):
        for row in small_rows():
            by_place = placed(row)
            for place in by_place:
                later = {at: by_place[at] for at in by_place if at > place}
                self.assertEqual(cut_off(row, place), row_of(place, by_place[place][0], later))


class TakenOver(unittest.TestCase):
    def test_at_most_base_the_row_itself(self):
        for row in ROWS:
            for place in {0, row[0] - 1, row[0]}:
                for last in (0, 1, 3, 9, HUGE):
                    self.assertEqual(taken_over(row, place, last), row)

    def test_where_it_agrees_it_is_cut_off(self):
        self.assertEqual(taken_over(PLAIN, 2, 1), (2, 1, PLAIN[2][2:]))
        self.assertEqual(taken_over(PLAIN, 4, 5), (4, 5, ()))
        self.assertEqual(taken_over(BASED, 7, 3), (7, 3, BASED[2][1:]))

    def test_where_it_does_not_nothing_is_left(self):
        self.assertEqual(taken_over(PLAIN, 2, 2), (2, 2, ()))
        self.assertEqual(taken_over(PLAIN, 4, 6), (4, 6, ()))
        self.assertEqual(taken_over(BASED, 7, 2), (7, 2, ()))

    def test_above_the_end_nothing_is_left(self):
        for row in ROWS:
            for more in (1, 2, HUGE):
                for last in (1, 3, 5, HUGE):
                    self.assertEqual(taken_over(row, end_of(row) + more, last), (end_of(row) + more, last, ()))

    def test_everywhere_about_every_small_row(self):
        for row in small_rows():
            by_place = placed(row)
            for place in range(9):
                for last in range(1, 5):
                    if place <= row[0]:
                        wanted = row
                    elif place in by_place and by_place[place][0] == last:
                        wanted = row_of(place, last, {at: by_place[at] for at in by_place if at > place})
                    else:
                        wanted = (place, last, ())
                    self.assertEqual(taken_over(row, place, last), wanted)


class NothingIsChanged(unittest.TestCase):
    def test_the_row_and_the_entries_stay_as_they_were(self):
        row = (2, 1, ((1, ["a", [1]]), (2, ["b"]), (2, ["c"])))
        come = ((2, ["d"]), (3, ["e", [2]]))
        ahead = copy.deepcopy((row, come))
        put(row, come[0])
        filled(row, 3, come)
        filled(row, 5, come)
        cut_off(row, 4)
        taken_over(row, 4, 2)
        taken_over(row, 4, 3)
        self.assertEqual((row, come), ahead)

    def test_what_an_entry_holds_is_not_looked_at(self):
        row = (2, 1, ((1, Sealed()), (2, Sealed()), (2, Sealed())))
        come = ((2, Sealed()), (3, Sealed()), (3, Sealed()))
        self.assertIs(put(row, come[0])[2][3], come[0])
        given = filled(row, 3, come)
        self.assertEqual([at for at, entry in enumerate(given[2]) if any(entry is own for own in row[2])], [0, 1])
        self.assertIs(given[2][3], come[2])
        self.assertIs(cut_off(row, 4)[2][0], row[2][2])
        self.assertIs(taken_over(row, 4, 2)[2][0], row[2][2])

    def test_rows_that_are_given_are_tuples(self):
        for given in (put(PLAIN, (1, 1)), filled(PLAIN, 2, entries_of((9,))), filled(PLAIN, 0, ()), cut_off(PLAIN, 2),
                      taken_over(PLAIN, 2, 1), taken_over(PLAIN, 2, 9), taken_over(PLAIN, 0, 0)):
            self.assertIsInstance(given, tuple)
            self.assertEqual(len(given), 3)
            self.assertIsInstance(given[2], tuple)


if __name__ == "__main__":
    unittest.main()
