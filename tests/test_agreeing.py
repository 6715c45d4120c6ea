import itertools
import unittest

from keeplog.agreeing import move, pack_up, take_held, take_wish
from keeplog.keepers import Keeper
from keeplog.packs import first_pack, pack_at
from keeplog.stores import fresh, replayed
from keeplog.things import is_letter, is_pack, is_store
from tests.keeping import (
    THREE, WholeState, add_entry, head_with, keeper_with, nine, on_all_ways, opened, seats_entry, twin_of, values_of, wish_entry,
)
from tests.samples import HUGE, NINE

FIVE = (0, 1, 2, 3, 4)
SET = ("set", "x", 5)
ADD = ("add", "x", 1)


def held(one, term, good, place, other=0):
    return ("held", one, other, term, good, place)


def wish(caller, number, deed, other=0):
    return ("wish", caller, other, number, deed)


def told(caller, number, answer, one=0):
    return ("told", one, caller, number, answer)


class TakeHeld(unittest.TestCase, WholeState):
    def head(self, **values):
        """A head of term 3 with four entries, none of which three of five hold in its own term."""
        entries = (opened(1), opened(2), opened(2), opened(3))
        own = {"nexts": (4,) * 9, "held": nine(0, 2)}
        own.update(values)
        return head_with(0, FIVE, 3, entries, **own)

    def takes(self, keeper, letter, letters=(), **changes):
        self.takes_so(take_held, keeper, letter, letters, **changes)

    def test_a_greater_term_is_heard_of_and_nothing_else(self):
        for good in (True, False):
            for keeper in on_all_ways(3):
                for term in (4, HUGE):
                    self.takes(twin_of(keeper), held(1, term, good, 2), term=term, voice=None, way="plain", voices=(),
                               head=None, waits=())

    def test_a_lower_term_changes_nothing(self):
        for good in (True, False):
            for keeper in on_all_ways(3):
                for term in (1, 2):
                    for place in (0, 2):
                        self.takes(twin_of(keeper), held(1, term, good, place))

    def test_its_own_term_where_it_is_not_head(self):
        for good in (True, False):
            for keeper in on_all_ways(3)[:3]:
                for place in (0, 1, 2):
                    self.takes(twin_of(keeper), held(1, 3, good, place))

    def test_good_with_a_greater_place(self):
        self.takes(self.head(), held(1, 3, True, 3), held=nine(0, 3))
        self.takes(self.head(), held(1, 3, True, 4), held=nine(0, 4), nexts=(4, 5) + (4,) * 7)
        self.takes(self.head(nexts=(1,) * 9), held(1, 3, True, 3), held=nine(0, 3), nexts=(1, 4) + (1,) * 7)

    def test_good_with_a_place_less_than_what_was_held(self):
        self.takes(self.head(), held(1, 3, True, 1))
        self.takes(self.head(), held(1, 3, True, 0))
        self.takes(self.head(), held(1, 3, True, 2))
        self.takes(self.head(nexts=(3,) * 9), held(1, 3, True, 1))

    def test_good_with_a_place_below_the_next_one(self):
        self.takes(self.head(nexts=(5,) * 9), held(2, 3, True, 1), held=nine(0, 2, 1))
        self.takes(self.head(nexts=(2,) * 9), held(2, 3, True, 1), held=nine(0, 2, 1))
        self.takes(self.head(nexts=(1,) * 9), held(2, 3, True, 1), held=nine(0, 2, 1), nexts=(1, 1, 2) + (1,) * 6)

    def test_not_good_goes_back_to_the_place_told_and_1(self):
        self.takes(self.head(), held(2, 3, False, 2), nexts=(4, 4, 3) + (4,) * 6)
        self.takes(self.head(), held(2, 3, False, 1), nexts=(4, 4, 2) + (4,) * 6)
        self.takes(self.head(), held(2, 3, False, 0), nexts=(4, 4, 1) + (4,) * 6)

    def test_not_good_never_goes_ahead(self):
        for place in (3, 4, 5, HUGE):
            self.takes(self.head(), held(2, 3, False, place))

    def test_not_good_never_goes_back_to_what_is_held(self):
        for place in (0, 1, 2):
            self.takes(self.head(), held(1, 3, False, place), nexts=(4, 3) + (4,) * 7)
        self.takes(self.head(nexts=(3,) * 9), held(1, 3, False, 0))
        self.takes(self.head(nexts=(1,) * 9), held(1, 3, False, 0), nexts=(1, 3) + (1,) * 7)
        self.takes(self.head(nexts=(2,) * 9), held(1, 3, False, 9), nexts=(2, 3) + (2,) * 7)

    def test_not_good_agrees_on_nothing(self):
        self.takes(self.head(held=nine(0, 4, 4), nexts=(5,) * 9), held(3, 3, False, 4))
        self.takes(self.head(held=nine(0, 4, 4), nexts=(5,) * 9), held(1, 3, False, 4))

    def test_of_one_that_has_no_seat(self):
        keeper = head_with(0, THREE, 1, (opened(1),))
        self.takes(keeper, held(8, 1, True, 1), held=(0,) * 8 + (1,))
        self.takes(keeper, held(7, 1, False, 0), nexts=(2,) * 7 + (1, 2))
        self.takes(keeper, held(7, 1, True, 1), held=(0,) * 7 + (1, 1), nexts=(2,) * 9)

    def test_each_ones_places_alone_change(self):
        for one in range(1, 9):
            keeper = head_with(0, NINE, 2, (opened(1), opened(1), opened(2)), nexts=(2,) * 9)
            self.takes(keeper, held(one, 2, True, 2), held=(0,) * one + (2,) + (0,) * (8 - one),
                       nexts=(2,) * one + (3,) + (2,) * (8 - one))
            self.takes(keeper, held(one, 2, False, 0))

    def test_places_above_its_end_that_no_keeper_wrote(self):
        for place in (5, 6, HUGE):
            keeper = self.head(held=nine(0, place, place))
            self.takes(keeper, held(3, 3, True, place), held=nine(0, place, place, place), nexts=(4, 4, 4, place + 1) + (4,) * 5)
            keeper = self.head(held=nine(0, place))
            self.takes(keeper, held(2, 3, True, place), held=nine(0, place, place), nexts=(4, 4, place + 1) + (4,) * 6, agreed=4)
            self.takes(keeper, held(3, 3, True, place), held=nine(0, place, place, place),
                       nexts=(4, 4) + (place + 1,) * 2 + (4,) * 5)

    def test_a_place_told_below_nought(self):
        self.takes(self.head(), held(2, 3, True, -1))
        self.takes(self.head(), held(2, 3, False, -1), nexts=(4, 4, 1) + (4,) * 6)


class Agreeing(unittest.TestCase, WholeState):
    def test_just_half_of_the_seats_and_one_more(self):
        for seats, half in (((0, 1), 0), ((0, 1, 2, 3), 1), ((0, 1, 2, 3, 4, 5), 2), (NINE[:8], 3)):
            keeper = head_with(0, seats, 1, (opened(1), add_entry(1, "al", 1)))
            for one in range(1, half + 1):
                take_held(keeper, held(one, 1, True, 2))
                self.assertEqual(keeper.agreed, 0)
            self.assertEqual(take_held(keeper, held(half + 1, 1, True, 2)), [])
            self.assertEqual((keeper.agreed, keeper.store), (2, ((("x", 1),), (("al", 1, 1),))))

    def test_odd_seats(self):
        for seats, needed in ((THREE, 1), (FIVE, 2), (NINE, 4)):
            keeper = head_with(0, seats, 1, (opened(1),))
            for one in range(1, needed + 1):
                self.assertEqual(keeper.agreed, 0)
                take_held(keeper, held(one, 1, True, 1))
            self.assertEqual(keeper.agreed, 1)

    def test_those_that_have_no_seat_count_for_nothing(self):
        keeper = head_with(0, THREE, 1, (opened(1),))
        for one in range(3, 9):
            take_held(keeper, held(one, 1, True, 1))
        self.assertEqual(keeper.agreed, 0)
        take_held(keeper, held(2, 1, True, 1))
        self.assertEqual(keeper.agreed, 1)

    def test_its_own_end_counts_and_not_its_held_place(self):
        keeper = head_with(1, (1, 2), 1, (opened(1), opened(1)), held=nine(9, 0))
        take_held(keeper, held(2, 1, True, 2, 1))
        self.assertEqual((keeper.agreed, keeper.held), (2, nine(9, 0, 2)))
        keeper = head_with(1, THREE, 1, (opened(1), opened(1)), held=nine(0, 9))
        take_held(keeper, held(2, 1, True, 1, 1))
        self.assertEqual((keeper.agreed, keeper.held), (1, nine(0, 9, 1)))

    def test_a_place_whose_term_is_not_its_own(self):
        entries = (opened(1), add_entry(2, "al", 1), opened(4), add_entry(4, "al", 2))
        for place, agreed in ((1, 0), (2, 0), (3, 3), (4, 4)):
            keeper = head_with(0, THREE, 4, entries)
            take_held(keeper, held(1, 4, True, place))
            self.assertEqual(keeper.agreed, agreed)
            self.assertEqual(keeper.store, replayed(fresh(), entries[:agreed]))

    def test_a_greater_term_than_its_own_is_none_of_its_own(self):
        keeper = head_with(0, THREE, 4, (opened(4), opened(5)))
        take_held(keeper, held(1, 4, True, 2))
        self.assertEqual(keeper.agreed, 0)

    def test_what_is_agreed_stays_so(self):
        for place in range(4):
            keeper = head_with(0, THREE, 1, (opened(1),) * 3, agreed=3, held=nine(0, 3))
            ahead = values_of(keeper)
            self.assertEqual(take_held(keeper, held(1, 1, True, place)), [])
            self.has(keeper, ahead)
        keeper = head_with(0, FIVE, 1, (opened(1),) * 3, agreed=2, held=nine(0, 1))
        take_held(keeper, held(2, 1, True, 1))
        self.assertEqual(keeper.agreed, 2)

    def test_what_is_agreed_is_not_done_again(self):
        store = ((("x", 10),), ())
        keeper = head_with(0, THREE, 1, (add_entry(1, "al", 1), add_entry(1, "al", 2)), agreed=1, store=store)
        take_held(keeper, held(1, 1, True, 2))
        self.assertEqual(keeper.store, ((("x", 11),), (("al", 2, 11),)))

    def test_a_base_above_0(self):
        pack = (6, 2, THREE, ((("x", 1),), (("al", 1, 1),)))
        entries = (opened(3), add_entry(3, "al", 2))
        keeper = head_with(0, (5,), 3, (), pack=pack, row=(6, 2, entries), agreed=6, store=pack[3], waits=(("al", 2, 8),))
        self.assertEqual(take_held(keeper, held(1, 3, True, 5)), [])
        self.assertEqual(keeper.agreed, 6)
        self.assertEqual(take_held(keeper, held(1, 3, True, 6)), [])
        self.assertEqual(keeper.agreed, 6)
        self.assertEqual(take_held(keeper, held(1, 3, True, 8)), [told("al", 2, 2)])
        self.assertEqual((keeper.agreed, keeper.store), (8, ((("x", 2),), (("al", 2, 2),))))

    def test_seats_in_force_are_those_of_the_whole_row(self):
        entries = (opened(1), seats_entry(1, 0, 1, 2, 3))
        keeper = head_with(0, THREE, 1, entries)
        take_held(keeper, held(1, 1, True, 2))
        self.assertEqual(keeper.agreed, 0)
        take_held(keeper, held(3, 1, True, 2))
        self.assertEqual(keeper.agreed, 2)

    def test_by_all_that_few_keepers_hold(self):
        terms = [terms for terms in itertools.product((1, 2, 3), repeat=3) if terms == tuple(sorted(terms))]
        for places, some in itertools.product(itertools.product(range(5), repeat=3), terms):
            entries = tuple(add_entry(term, "al", at) for at, term in enumerate(some, start=1))
            keeper = head_with(0, (0, 1, 2, 3), 2, entries, held=nine(0, *places[:2], 0), waits=())
            take_held(keeper, held(3, 2, True, places[2]))
            most_hold = [place for place in range(1, 4) if sum(own >= place for own in places) + 1 > 2]
            place = max(most_hold, default=0)
            agreed = place if place and some[place - 1] == 2 else 0
            if sum(own >= 4 for own in places) > 2:
                agreed = 0
            self.assertEqual(keeper.agreed, agreed)
            self.assertEqual(keeper.store, replayed(fresh(), entries[:agreed]))


class Waiting(unittest.TestCase, WholeState):
    def test_for_a_place_that_comes_to_be_agreed_and_for_a_later_one(self):
        entries = (opened(2), add_entry(2, "al", 1), add_entry(2, "bob", 3), wish_entry(2, "al", 2, SET))
        waits = (("al", 1, 2), ("bob", 3, 3), ("al", 2, 4))
        for place, letters in ((1, []), (2, [told("al", 1, 1)]), (3, [told("al", 1, 1), told("bob", 3, 2)]),
                               (4, [told("al", 1, 1), told("bob", 3, 2), told("al", 2, 2)])):
            keeper = head_with(0, THREE, 2, entries, waits=waits)
            ahead = values_of(keeper)
            self.assertEqual(take_held(keeper, held(2, 2, True, place)), letters)
            self.has(keeper, ahead, held=nine(0, 0, place), agreed=place, store=replayed(fresh(), entries[:place]),
                     waits=waits[max(place - 1, 0):])

    def test_the_answer_is_the_one_that_stood_at_its_entry(self):
        entries = (opened(1), wish_entry(1, "al", 1, SET), wish_entry(1, "bob", 1, ("get", "x")), add_entry(1, "cy", 1))
        keeper = head_with(5, (5, 6), 1, entries, waits=(("al", 1, 2), ("bob", 1, 3), ("cy", 1, 4)))
        letters = [told("al", 1, 0, 5), told("bob", 1, 5, 5), told("cy", 1, 6, 5)]
        self.assertEqual(take_held(keeper, held(6, 1, True, 4, 5)), letters)

    def test_a_number_that_is_no_more_the_callers(self):
        entries = (opened(1), add_entry(1, "al", 5), add_entry(1, "al", 3), add_entry(1, "bob", 1))
        keeper = head_with(0, THREE, 1, entries, waits=(("al", 5, 2), ("al", 3, 3), ("bob", 1, 4)))
        self.assertEqual(take_held(keeper, held(1, 1, True, 4)), [told("al", 5, 1), told("bob", 1, 2)])
        self.assertEqual((keeper.waits, keeper.store), ((), ((("x", 2),), (("al", 5, 1), ("bob", 1, 2)))))

    def test_a_wish_that_came_in_twice_is_told_the_same_twice(self):
        entries = (opened(1), add_entry(1, "al", 1), add_entry(1, "bob", 1), add_entry(1, "al", 1))
        keeper = head_with(0, THREE, 1, entries, waits=(("al", 1, 2), ("bob", 1, 3), ("al", 1, 4)))
        self.assertEqual(take_held(keeper, held(1, 1, True, 4)), [told("al", 1, 1), told("bob", 1, 2), told("al", 1, 1)])
        self.assertEqual(keeper.store[0], (("x", 2),))

    def test_several_that_wait_for_one_place(self):
        entries = (opened(1), add_entry(1, "al", 1))
        keeper = head_with(0, THREE, 1, entries, waits=(("bob", 1, 2), ("al", 1, 2), ("al", 2, 2), ("al", 1, 2)))
        self.assertEqual(take_held(keeper, held(1, 1, True, 2)), [told("al", 1, 1)] * 2)
        self.assertEqual(keeper.waits, ())

    def test_what_waits_for_another_place_waits_on(self):
        entries = (add_entry(1, "al", 1), add_entry(1, "bob", 1), add_entry(1, "al", 2))
        keeper = head_with(0, THREE, 1, entries, agreed=1, store=replayed(fresh(), entries[:1]),
                           waits=(("al", 1, 1), ("bob", 1, 2), ("al", 2, 3)))
        self.assertEqual(take_held(keeper, held(1, 1, True, 2)), [told("bob", 1, 2)])
        self.assertEqual(keeper.waits, (("al", 1, 1), ("al", 2, 3)))

    def test_an_entry_for_which_nothing_waits_is_told_to_nobody(self):
        entries = (opened(1), add_entry(1, "al", 1), add_entry(1, "bob", 1))
        keeper = head_with(0, THREE, 1, entries, waits=(("bob", 1, 3),))
        self.assertEqual(take_held(keeper, held(1, 1, True, 3)), [told("bob", 1, 2)])
        self.assertEqual(keeper.store[1], (("al", 1, 1), ("bob", 1, 2)))


class SteppingBack(unittest.TestCase, WholeState):
    ENTRIES = (opened(1), seats_entry(1, 1, 2), add_entry(1, "al", 1), add_entry(1, "al", 2))

    def test_the_seats_place_agreed_and_it_is_none_of_its_seats(self):
        keeper = head_with(0, THREE, 1, self.ENTRIES, voices=(0, 2), held=nine(0, 3), waits=(("al", 1, 3), ("al", 2, 4)))
        ahead = values_of(keeper)
        self.assertEqual(take_held(keeper, held(2, 1, True, 3)), [told("al", 1, 1)])
        self.has(keeper, ahead, held=nine(0, 3, 3), agreed=3, store=replayed(fresh(), self.ENTRIES[:3]), way="plain", head=None,
                 waits=())

    def test_it_is_none_of_its_seats_and_their_place_not_yet_agreed(self):
        keeper = head_with(0, THREE, 1, self.ENTRIES, waits=(("al", 1, 3), ("al", 2, 4)))
        for one, place in ((2, 3), (1, 1)):
            take_held(keeper, held(one, 1, True, place))
            self.assertEqual((keeper.way, keeper.head, keeper.voices, len(keeper.waits)), ("head", 0, (0,), 2))
        self.assertEqual(keeper.agreed, 1)

    def test_its_own_end_counts_for_nothing_then(self):
        keeper = head_with(0, THREE, 1, self.ENTRIES)
        take_held(keeper, held(2, 1, True, 4))
        self.assertEqual((keeper.agreed, keeper.way), (0, "head"))

    def test_it_is_one_of_its_seats(self):
        for seats in ((0, 1), (0, 1, 2, 3)):
            keeper = head_with(0, THREE, 1, (opened(1), seats_entry(1, *seats)), held=nine(0, 2))
            take_held(keeper, held(2, 1, True, 2))
            self.assertEqual((keeper.agreed, keeper.way, keeper.head), (2, "head", 0))

    def test_though_nothing_came_to_be_agreed(self):
        keeper = head_with(0, THREE, 1, self.ENTRIES, agreed=2, held=nine(0, 2, 2), waits=(("al", 1, 3),))
        ahead = values_of(keeper)
        self.assertEqual(take_held(keeper, held(2, 1, True, 1)), [])
        self.has(keeper, ahead, way="plain", head=None, waits=())

    def test_not_good_does_not_agree(self):
        keeper = head_with(0, THREE, 1, self.ENTRIES, agreed=2, nexts=(5,) * 9)
        ahead = values_of(keeper)
        self.assertEqual(take_held(keeper, held(2, 1, False, 4)), [])
        self.has(keeper, ahead)

    def test_seats_of_the_pack_are_agreed(self):
        pack = (2, 1, (1, 2), fresh())
        keeper = head_with(0, (), 2, (), pack=pack, row=(2, 1, (opened(2),)), agreed=2)
        take_held(keeper, held(1, 2, True, 0))
        self.assertEqual((keeper.way, keeper.head), ("plain", None))

    def test_first_seats_are_agreed(self):
        keeper = head_with(0, (1, 2), 1, (opened(1),))
        take_held(keeper, held(1, 1, True, 0))
        self.assertEqual((keeper.agreed, keeper.way), (0, "plain"))

    def test_seats_of_another_term_that_are_held_but_not_agreed(self):
        keeper = head_with(0, THREE, 3, (opened(1), seats_entry(2, 1, 2), opened(3)), held=nine(0, 2))
        take_held(keeper, held(2, 3, True, 2))
        self.assertEqual((keeper.agreed, keeper.way), (0, "head"))
        take_held(keeper, held(2, 3, True, 3))
        take_held(keeper, held(1, 3, True, 3))
        self.assertEqual((keeper.agreed, keeper.way), (3, "plain"))


class TakeWish(unittest.TestCase, WholeState):
    def takes(self, keeper, letter, letters, **changes):
        self.takes_so(take_wish, keeper, letter, letters, **changes)

    def test_it_is_not_head(self):
        for number in (1, 2, HUGE):
            for keeper, head in zip(on_all_ways(3)[:3], (None, 2, None)):
                self.takes(keeper, wish("al", number, SET), [("away", 0, "al", number, head)])

    def test_it_is_not_head_whomever_it_takes_for_head(self):
        for head in (None,) + NINE:
            keeper = keeper_with(4, THREE, head=head)
            self.takes(keeper, wish("bob", 7, ADD, 4), [("away", 4, "bob", 7, head)])

    def test_it_is_not_head_and_the_answer_stands(self):
        keeper = keeper_with(0, THREE, store=((), (("al", 3, 9),)), head=1)
        for number in (2, 3, 4):
            self.takes(keeper, wish("al", number, SET), [("away", 0, "al", number, 1)])

    def test_a_number_below_the_callers(self):
        keeper = head_with(0, THREE, 1, (opened(1),), store=((("x", 2),), (("al", 5, 9),)))
        for number in (1, 3, 4):
            self.takes(keeper, wish("al", number, SET), [])

    def test_the_very_number(self):
        for answer in (9, 0, -HUGE):
            keeper = head_with(3, THREE, 1, (opened(1),), store=((("x", 2),), (("al", 5, answer), ("bob", 2, 1))))
            for deed in (SET, ADD, ("get", "y")):
                self.takes(keeper, wish("al", 5, deed, 3), [told("al", 5, answer, 3)])
            self.takes(keeper, wish("bob", 2, SET, 3), [told("bob", 2, 1, 3)])

    def test_neither_agrees(self):
        entries = (opened(1), add_entry(1, "al", 5))
        keeper = head_with(0, THREE, 1, entries, held=nine(0, 2), store=((), (("al", 4, 7),)), waits=(("al", 5, 2),))
        self.takes(keeper, wish("al", 3, SET), [])
        self.takes(keeper, wish("al", 4, SET), [told("al", 4, 7)])

    def test_a_greater_number(self):
        entries = (opened(1),)
        for number in (6, 7, HUGE):
            for deed in (SET, ADD, ("get", "y")):
                keeper = head_with(0, THREE, 2, entries, store=((), (("al", 5, 9),)))
                self.takes(keeper, wish("al", number, deed), [], row=(0, 0, entries + ((2, ("wish", "al", number, deed)),)),
                           waits=(("al", number, 2),))

    def test_a_caller_that_does_not_stand(self):
        pack = (HUGE, 1, THREE, fresh())
        keeper = head_with(1, THREE, 2, (), pack=pack, row=(HUGE, 1, (opened(2),)), agreed=HUGE)
        self.takes(keeper, wish("al", 1, SET, 1), [], row=(HUGE, 1, (opened(2), wish_entry(2, "al", 1, SET))),
                   waits=(("al", 1, HUGE + 2),))

    def test_wishes_wait_by_their_places(self):
        keeper = head_with(0, THREE, 1, (opened(1),))
        for caller, number in (("zoe", 1), ("al", 4), ("al", 2), ("zoe", 1)):
            self.assertEqual(take_wish(keeper, wish(caller, number, ADD)), [])
        self.assertEqual(keeper.waits, (("zoe", 1, 2), ("al", 4, 3), ("al", 2, 4), ("zoe", 1, 5)))
        self.assertEqual(keeper.row[2][1:], tuple(add_entry(1, wait[0], wait[1]) for wait in keeper.waits))
        self.assertEqual(take_held(keeper, held(2, 1, True, 5)), [told("zoe", 1, 1), told("al", 4, 2), told("zoe", 1, 1)])
        self.assertEqual(keeper.store, ((("x", 2),), (("al", 4, 2), ("zoe", 1, 1))))

    def test_one_seat_alone_agrees_at_once(self):
        keeper = head_with(0, (0,), 1, (opened(1),), agreed=1)
        self.takes(keeper, wish("al", 1, SET), [told("al", 1, 0)], row=(0, 0, (opened(1), wish_entry(1, "al", 1, SET))),
                   agreed=2, store=((("x", 5),), (("al", 1, 0),)))
        self.takes(keeper, wish("al", 1, SET), [told("al", 1, 0)])
        self.assertEqual(take_wish(keeper, wish("al", 2, ADD)), [told("al", 2, 6)])
        self.takes(keeper, wish("al", 1, SET), [])
        self.assertEqual((keeper.agreed, keeper.waits), (3, ()))

    def test_one_seat_alone_agrees_on_all_that_waited_too(self):
        entries = (opened(1), add_entry(1, "al", 1))
        keeper = head_with(0, (0,), 1, entries, waits=(("al", 1, 2),))
        self.assertEqual(take_wish(keeper, wish("bob", 1, ADD)), [told("al", 1, 1), told("bob", 1, 2)])

    def test_it_agrees_and_may_step_back(self):
        pack = (2, 1, (1, 2), fresh())
        keeper = head_with(0, THREE, 2, (), pack=pack, row=(2, 1, (opened(2),)), agreed=2, voices=(0, 1))
        self.takes(keeper, wish("al", 1, SET), [], row=(2, 1, (opened(2), wish_entry(2, "al", 1, SET))), way="plain", head=None)


class Move(unittest.TestCase, WholeState):
    def head(self, **values):
        return head_with(0, THREE, 2, (opened(1), opened(2)), **dict({"agreed": 2, "held": nine(0, 2, 1)}, **values))

    def moves(self, keeper, seats, done, letters=(), **changes):
        ahead = values_of(keeper)
        given = move(keeper, seats)
        self.assertEqual(given, (done, list(letters)))
        self.assertIs(given[0], done)
        self.assertIsInstance(given, tuple)
        self.assertIsInstance(given[1], list)
        self.has(keeper, ahead, **changes)

    def test_one_off(self):
        for seats in ((0, 1), (0, 2), (1, 2), (0, 1, 2, 3), (0, 1, 2, 8)):
            self.moves(self.head(), seats, True, row=(0, 0, (opened(1), opened(2), (2, ("seats", seats)))))

    def test_the_same_and_two_off(self):
        for seats in (THREE, (0,), (2,), (0, 3), (0, 1, 3), (3, 4, 5), (0, 1, 2, 3, 4), NINE):
            self.moves(self.head(), seats, False)

    def test_it_is_not_head(self):
        for way in ("plain", "standing"):
            self.moves(self.head(way=way), (0, 1), False)
        self.moves(Keeper(0, THREE), (0, 1), False)

    def test_the_seats_place_is_not_yet_agreed(self):
        entries = (opened(2), opened(2), seats_entry(2, 0, 1, 2, 3), opened(2))
        for agreed, done in ((1, False), (2, False), (3, True), (4, True)):
            keeper = head_with(0, THREE, 2, entries, agreed=agreed)
            changes = {"row": (0, 0, entries + (seats_entry(2, 0, 1, 3),))} if done else {}
            self.moves(keeper, (0, 1, 3), done, **changes)
            self.moves(head_with(0, THREE, 2, entries, agreed=agreed), (0, 1), False)

    def test_the_term_at_the_agreed_place_is_not_its_own(self):
        self.moves(self.head(agreed=1), (0, 1), False)
        self.moves(self.head(agreed=0), (0, 1), False)
        self.moves(head_with(0, THREE, 3, (opened(3),) * 2), (0, 1), False)
        self.moves(head_with(0, THREE, 3, (opened(3), opened(4)), agreed=2), (0, 1), False)

    def test_the_term_at_the_agreed_place_where_that_is_base(self):
        for last, done in ((2, False), (3, True)):
            pack = (7, last, THREE, fresh())
            keeper = head_with(0, (5,), 3, (), pack=pack, row=(7, last, (opened(3),)), agreed=7)
            changes = {"row": (7, last, (opened(3), seats_entry(3, 0, 1)))} if done else {}
            self.moves(keeper, (0, 1), done, **changes)

    def test_twice_only_where_the_first_is_agreed(self):
        keeper = self.head()
        self.assertEqual(move(keeper, (0, 1)), (True, []))
        self.moves(keeper, (0,), False)
        take_held(keeper, held(1, 2, True, 3))
        self.assertEqual(keeper.agreed, 3)
        self.moves(keeper, (1,), True, row=(0, 0, (opened(1), opened(2), seats_entry(2, 0, 1), seats_entry(2, 1))))

    def test_it_agrees_by_the_new_seats(self):
        keeper = head_with(0, (0, 1), 1, (opened(1), add_entry(1, "al", 1)), agreed=1, waits=(("al", 1, 2),))
        row = (0, 0, keeper.row[2] + (seats_entry(1, 0),))
        self.moves(keeper, (0,), True, [told("al", 1, 1)], row=row, agreed=3, store=((("x", 1),), (("al", 1, 1),)), waits=())

    def test_it_moves_itself_out(self):
        entries = (opened(1), add_entry(1, "al", 1))
        keeper = head_with(0, (0, 1), 1, entries, agreed=1, waits=(("al", 1, 2),))
        self.moves(keeper, (1,), True, row=(0, 0, entries + (seats_entry(1, 1),)))
        ahead = values_of(keeper)
        self.assertEqual(take_held(keeper, held(1, 1, True, 3)), [told("al", 1, 1)])
        self.has(keeper, ahead, held=nine(0, 3), nexts=(3, 4) + (3,) * 7, agreed=3, store=replayed(fresh(), entries), way="plain",
                 head=None, waits=())

    def test_what_is_held_already_steps_it_back_at_once(self):
        entries = (opened(1),)
        keeper = head_with(0, (0, 1), 1, entries, agreed=1, held=nine(0, 2))
        self.moves(keeper, (1,), True, row=(0, 0, entries + (seats_entry(1, 1),)), agreed=2, way="plain", head=None)

    def test_each_pair_of_few_seats(self):
        choices = [seats for many in (1, 2, 3, 4) for seats in itertools.combinations(range(4), many)]
        for seats, others in itertools.product(choices, repeat=2):
            keeper = head_with(seats[0], seats, 1, (opened(1),), agreed=1)
            self.assertIs(move(keeper, others)[0], len(set(seats) ^ set(others)) == 1)


class PackUp(unittest.TestCase, WholeState):
    ENTRIES = (opened(1), add_entry(1, "al", 1), seats_entry(2, 0, 1), add_entry(2, "al", 2), opened(2))
    PACK = (4, 1, THREE, ((("x", 3),), ()))

    def keepers(self, agreed):
        """Two keepers with the same entries, one of base 0 and one of base 4, that know so many of them to be agreed."""
        yield head_with(0, THREE, 2, self.ENTRIES, agreed=agreed, store=replayed(fresh(), self.ENTRIES[:agreed]),
                        waits=(("al", 2, 4),), held=nine(0, 3), nexts=nine(6, 4, 1))
        yield keeper_with(2, THREE, term=3, voice=1, head=1, pack=self.PACK, row=(4, 1, self.ENTRIES), agreed=4 + agreed,
                          store=replayed(self.PACK[3], self.ENTRIES[:agreed]))

    def packs(self, keeper, place, done, **changes):
        ahead = values_of(keeper)
        self.assertIs(pack_up(keeper, place), done)
        self.has(keeper, ahead, **changes)
        self.assertTrue(is_pack(keeper.pack))
        self.assertEqual((keeper.row[0], keeper.row[1]), keeper.pack[:2])

    def test_a_place_at_most_base(self):
        for keeper in self.keepers(5):
            base = keeper.row[0]
            for place in (base, base - 1, base - 2, 0, -1, -HUGE):
                self.packs(keeper, place, False)

    def test_a_place_above_what_is_agreed(self):
        for agreed in range(6):
            for keeper in self.keepers(agreed):
                for place in (keeper.agreed + 1, keeper.agreed + 2, HUGE):
                    self.packs(keeper, place, False)

    def test_a_place_above_base_and_up_to_what_is_agreed(self):
        for agreed in range(1, 6):
            for many in range(1, agreed + 1):
                for keeper in self.keepers(agreed):
                    base, last = keeper.row[0] + many, self.ENTRIES[many - 1][0]
                    pack = (base, last, THREE if many < 3 else (0, 1), replayed(keeper.pack[3], self.ENTRIES[:many]))
                    self.packs(keeper, base, True, pack=pack, row=(base, last, self.ENTRIES[many:]))
                    self.packs(keeper, base, False)

    def test_a_keeper_that_has_begun(self):
        for place in (-1, 0, 1, 2):
            self.packs(Keeper(0, THREE), place, False)

    def test_waking_behind_it_knows_what_is_packed(self):
        for keeper in self.keepers(5):
            base = keeper.row[0]
            pack_up(keeper, base + 3)
            keeper.wake()
            self.assertEqual((keeper.agreed, keeper.store), (base + 3, keeper.pack[3]))
            self.assertEqual(keeper.nexts, (base + 6,) * 9)

    def test_a_head_goes_on_behind_it(self):
        keeper = next(self.keepers(3))
        pack_up(keeper, 3)
        self.assertEqual(take_held(keeper, held(1, 2, True, 5)), [told("al", 2, 2)])
        self.assertEqual((keeper.agreed, keeper.store), (5, replayed(fresh(), self.ENTRIES)))
        self.assertEqual(take_wish(keeper, wish("bob", 1, ADD)), [])
        self.assertEqual(keeper.waits, (("bob", 1, 6),))


class Lists(unittest.TestCase):
    def test_lists_that_are_given_are_new_ones(self):
        keeper = head_with(0, (0,), 1, (opened(1),), agreed=1)
        first = take_wish(keeper, wish("al", 1, SET))
        again = take_wish(keeper, wish("al", 1, SET))
        self.assertEqual(first, again)
        first.append("spoilt")
        ahead = values_of(keeper)
        self.assertEqual(again, [told("al", 1, 0)])
        moved = move(keeper, (0, 1))
        moved[1].append("spoilt")
        self.assertEqual(move(keeper, (0,)), (False, []))
        nothing = take_held(keeper, held(1, 1, False, 0))
        nothing.append("spoilt")
        self.assertEqual(take_held(keeper, held(1, 1, False, 0)), [])
        self.assertEqual(again, [told("al", 1, 0)])
        self.assertEqual(ahead["store"], ((("x", 5),), (("al", 1, 0),)))

    def test_what_was_read_of_a_keeper_stays(self):
        keeper = head_with(0, THREE, 1, (opened(1),))
        ahead = values_of(keeper)
        twin = values_of(twin_of(keeper))
        take_wish(keeper, wish("al", 1, SET))
        take_held(keeper, held(1, 1, True, 2))
        move(keeper, (0, 1))
        pack_up(keeper, 1)
        keeper.wake()
        self.assertEqual(ahead, twin)
        self.assertNotEqual(values_of(keeper), twin)


class Walks(unittest.TestCase):
    """All walks of some steps of a head, each step's outcome held against what the whole log comes to."""

    STEPS = (
        lambda keeper: take_wish(keeper, wish("al", 1, ADD)),
        lambda keeper: take_wish(keeper, wish("al", 2, SET)),
        lambda keeper: take_wish(keeper, wish("bob", 1, ("get", "x"))),
        lambda keeper: take_held(keeper, held(1, 2, True, keeper.row[0] + len(keeper.row[2]))),
        lambda keeper: take_held(keeper, held(2, 2, True, 2)),
        lambda keeper: take_held(keeper, held(2, 2, False, 1)),
        lambda keeper: move(keeper, (0, 1))[1],
        lambda keeper: move(keeper, (1, 2))[1],
        lambda keeper: [] if pack_up(keeper, keeper.agreed) else [],
    )

    def log_behind(self, log, keeper):
        """The whole log: what was packed up stays as it was, the rest is the row's."""
        return log[:keeper.row[0]] + keeper.row[2]

    def looked_at(self, keeper, log, letters):
        self.assertEqual(keeper.store, replayed(fresh(), log[:keeper.agreed]))
        self.assertEqual(keeper.pack, pack_at(first_pack(THREE), (0, 0, log), keeper.pack[0]))
        self.assertEqual(keeper.row[:2], keeper.pack[:2])
        self.assertTrue(is_store(keeper.store) and is_pack(keeper.pack))
        places = [wait[2] for wait in keeper.waits]
        self.assertEqual(places, sorted(places))
        for caller, number, place in keeper.waits:
            self.assertEqual(log[place - 1][1][:3], ("wish", caller, number))
            self.assertGreater(place, keeper.agreed)
        for letter in letters:
            self.assertTrue(is_letter(letter))
            if letter[0] == "told":
                self.assertIn(letter[2:], self.answers(log[:keeper.agreed]))

    def answers(self, log):
        """What doing the entries in their order answers, each caller and number the first time that it counts."""
        for many in range(1, len(log) + 1):
            for caller, number, answer in replayed(fresh(), log[:many])[1]:
                yield (caller, number, answer)

    def walk(self, keeper, log, steps):
        for step in self.STEPS if steps else ():
            twin = twin_of(keeper)
            letters = step(twin)
            longer = self.log_behind(log, twin)
            self.assertEqual(longer[:len(log)], log)
            self.looked_at(twin, longer, letters)
            self.walk(twin, longer, steps - 1)

    def test_all_walks_of_four_steps(self):
        log = (opened(1), opened(2))
        self.walk(head_with(0, THREE, 2, log), log, 4)


if __name__ == "__main__":
    unittest.main()
