import itertools
import unittest

from keeplog.handing import beat
from keeplog.keepers import Keeper
from keeplog.stores import fresh
from keeplog.voting import stand, take_ask, take_voice
from tests.keeping import (
    THREE, WholeState, add_entry, head_with, keeper_with, nine, on_all_ways, opened, seats_entry, twin_of, values_of,
)
from tests.samples import HUGE, NINE, STORE, some_seats

FIVE = (0, 1, 2, 3, 4)
PACK = (7, 3, THREE, STORE)


def ask(one, term, place, last, other=0):
    return ("ask", one, other, term, place, last)


def voice(one, term, given, other=0):
    return ("voice", one, other, term, given)


def hand(one, other, term, place, last, entries, agreed=0):
    return ("hand", one, other, term, place, last, entries, agreed)


def standing(number, seats, term, row=(0, 0, ()), **values):
    return keeper_with(number, seats, **dict({"term": term, "voice": number, "way": "standing", "voices": (number,), "row": row},
                                             **values))


class Stand(unittest.TestCase, WholeState):
    def stands(self, keeper, letters, **changes):
        ahead = values_of(keeper)
        self.gives(stand(keeper), letters)
        self.has(keeper, ahead, **changes)

    def test_whatever_its_way(self):
        for term in (3, HUGE):
            for keeper in on_all_ways(term):
                letters = [ask(0, term + 1, 2, term, 1), ask(0, term + 1, 2, term, 2)]
                self.stands(keeper, letters, term=term + 1, voice=0, way="standing", voices=(0,), head=None, waits=())

    def test_one_that_had_voices_loses_them(self):
        keeper = standing(1, FIVE, 4, voices=(0, 1))
        self.stands(keeper, [ask(1, 5, 0, 0, other) for other in (0, 2, 3, 4)], term=5, voices=(1,))

    def test_again_and_again(self):
        keeper = Keeper(2, THREE)
        for term in (1, 2, 3, 4):
            self.stands(keeper, [ask(2, term, 0, 0, 0), ask(2, term, 0, 0, 1)], term=term, voice=2, way="standing", voices=(2,))

    def test_an_empty_row(self):
        self.stands(Keeper(0, THREE), [ask(0, 1, 0, 0, 1), ask(0, 1, 0, 0, 2)], term=1, voice=0, way="standing", voices=(0,))

    def test_a_row_of_some_entries(self):
        row = (0, 0, (opened(1), opened(2), add_entry(2, "al", 1)))
        keeper = keeper_with(1, THREE, term=6, row=row)
        self.stands(keeper, [ask(1, 7, 3, 2, 0), ask(1, 7, 3, 2, 2)], term=7, voice=1, way="standing", voices=(1,))

    def test_a_row_behind_a_pack(self):
        for entries, end, last in (((), 7, 3), ((opened(3),), 8, 3), ((opened(4), opened(6)), 9, 6)):
            keeper = keeper_with(2, (5,), term=6, pack=PACK, row=(7, 3, entries), agreed=7, store=STORE)
            self.stands(keeper, [ask(2, 7, end, last, 0), ask(2, 7, end, last, 1)], term=7, voice=2, way="standing", voices=(2,))

    def test_the_asks_rise_and_go_to_its_seats_alone(self):
        for number in range(9):
            for seats in ((0, 8), (1, 4, 7), (2, 3, 5, 6), NINE):
                keeper = Keeper(number, seats)
                self.assertEqual(stand(keeper), [ask(number, 1, 0, 0, other) for other in seats if other != number])

    def test_by_the_last_seats_of_its_row(self):
        row = (0, 0, (seats_entry(1, 0, 1, 2, 3), seats_entry(1, 0, 2, 3), opened(1)))
        keeper = keeper_with(0, THREE, term=1, row=row)
        self.assertEqual(stand(keeper), [ask(0, 2, 3, 1, 2), ask(0, 2, 3, 1, 3)])

    def test_one_that_is_not_of_its_seats(self):
        self.stands(Keeper(4, THREE), [ask(4, 1, 0, 0, other) for other in THREE], term=1, voice=4, way="standing", voices=(4,))
        self.stands(Keeper(0, (8,)), [ask(0, 1, 0, 0, 8)], term=1, voice=0, way="standing", voices=(0,))
        row = (0, 0, (opened(1), seats_entry(1, 1)))
        self.stands(keeper_with(0, (0, 1), term=1, row=row), [ask(0, 2, 2, 1, 1)], term=2, voice=0, way="standing", voices=(0,))

    def test_one_seat_alone_is_head_at_once(self):
        for number in (0, 5, 8):
            keeper = Keeper(number, (number,))
            self.stands(keeper, [], term=1, voice=number, way="head", voices=(number,), head=number, row=(0, 0, (opened(1),)),
                        agreed=1)
            self.stands(keeper, [], term=2, row=(0, 0, (opened(1), opened(2))), nexts=(2,) * 9, agreed=2)

    def test_one_seat_alone_agrees_on_all_that_its_row_has(self):
        row = (7, 3, (add_entry(3, "al", 2, "a", 4), add_entry(4, "cy", 1, "b", -1)))
        keeper = keeper_with(1, (0, 1), term=4, pack=(7, 3, (1,), STORE), row=row, agreed=7, store=STORE)
        store = ((("a", 5), ("ab", -2), ("b", -1)), (("al", 2, 5), ("bob", 3, -7), ("cy", 1, -1)))
        self.stands(keeper, [], term=5, voice=1, way="head", voices=(1,), head=1, row=(7, 3, row[2] + (opened(5),)), agreed=10,
                    store=store, nexts=(10,) * 9)

    def test_two_seats_are_not_one(self):
        for number in (0, 1):
            self.assertEqual(len(stand(Keeper(number, (0, 1)))), 1)


class TakeAsk(unittest.TestCase, WholeState):
    ROW = (0, 0, (opened(1), opened(3), add_entry(3, "al", 1)))
    # What a row may end with, each with whether that is as new as ROW.
    ENDS = (
        (0, 0, False), (1, 1, False), (3, 2, False), (HUGE, 2, False), (1, 3, False), (2, 3, False),
        (3, 3, True), (4, 3, True), (HUGE, 3, True), (1, 4, True), (2, 4, True), (3, 4, True), (9, HUGE, True),
    )

    def takes(self, keeper, letter, given, **changes):
        one, term = letter[1], changes.get("term", keeper.term)
        self.takes_so(take_ask, keeper, letter, [voice(keeper.number, term, given, one)], **changes)

    def test_a_lower_term(self):
        for term in (1, 2, 3):
            for keeper in on_all_ways(4):
                for place, last in ((0, 0), (2, 4), (9, 9)):
                    for one in (1, 2):
                        self.takes(twin_of(keeper), ask(one, term, place, last), False)

    def test_its_own_term_and_no_voice_given(self):
        for place, last, new in self.ENDS:
            for head in (None, 0):
                keeper = keeper_with(1, THREE, term=5, row=self.ROW, head=head)
                self.takes(keeper, ask(2, 5, place, last, 1), new, **({"voice": 2} if new else {}))

    def test_a_voice_already_given_to_that_one(self):
        for place, last, new in self.ENDS:
            keeper = keeper_with(1, THREE, term=5, row=self.ROW, voice=2)
            self.takes(keeper, ask(2, 5, place, last, 1), new)

    def test_a_voice_already_given_to_another_one(self):
        for given_to, one in ((0, 2), (2, 0), (1, 0), (1, 2), (8, 0)):
            for place, last, new in self.ENDS:
                keeper = keeper_with(1, THREE, term=5, row=self.ROW, voice=given_to)
                self.takes(keeper, ask(one, 5, place, last, 1), False)

    def test_keeper_0_is_a_keeper_too(self):
        keeper = keeper_with(1, THREE, term=5, voice=0)
        self.takes(keeper, ask(2, 5, 0, 0, 1), False)
        self.takes(keeper, ask(0, 5, 0, 0, 1), True)
        keeper = keeper_with(1, THREE, term=5)
        self.takes(keeper, ask(0, 5, 0, 0, 1), True, voice=0)

    def test_a_greater_term(self):
        for term in (6, 7, HUGE):
            for place, last, new in self.ENDS:
                for voice_ahead in (None, 0, 1, 2):
                    keeper = keeper_with(1, THREE, term=5, row=self.ROW, voice=voice_ahead)
                    self.takes(keeper, ask(2, term, place, last, 1), new, term=term, voice=2 if new else None)

    def test_a_greater_term_whatever_its_way(self):
        for keeper in on_all_ways(4):
            plain = {"term": 5, "way": "plain", "voices": (), "head": None, "waits": ()}
            self.takes(twin_of(keeper), ask(2, 5, 2, 4), True, voice=2, **plain)
            self.takes(twin_of(keeper), ask(2, 5, 2, 3), False, voice=None, **plain)

    def test_its_own_term_whatever_its_way(self):
        plain, follower, stander, head = on_all_ways(4)
        self.takes(plain, ask(1, 4, 2, 4), True, voice=1)
        self.takes(follower, ask(1, 4, 2, 4), False)
        self.takes(follower, ask(2, 4, 2, 4), True)
        for one in (1, 2):
            self.takes(stander, ask(one, 4, 2, 4), False)
            self.takes(head, ask(one, 4, 2, 4), False)

    def test_an_empty_row_and_a_row_behind_a_pack(self):
        self.takes(Keeper(1, THREE), ask(0, 1, 0, 0, 1), True, term=1, voice=0)
        for place, last, new in ((6, 3, False), (7, 2, False), (8, 2, False), (0, 0, False), (7, 3, True), (8, 3, True), (1, 4, True)):
            keeper = keeper_with(1, THREE, term=5, pack=PACK, row=(7, 3, ()), agreed=7, store=STORE)
            self.takes(keeper, ask(0, 5, place, last, 1), new, **({"voice": 0} if new else {}))

    def test_seats_are_not_looked_at(self):
        self.takes(Keeper(5, THREE), ask(8, 2, 0, 0, 5), True, term=2, voice=8)
        self.takes(Keeper(1, (1,)), ask(8, 2, 0, 0, 1), True, term=2, voice=8)

    def test_one_voice_in_each_term(self):
        keeper = Keeper(3, NINE)
        for term in (1, 2, 3):
            for first, second in ((term, 8), (term, 0)):
                self.assertEqual(take_ask(keeper, ask(first - 1, term, 0, 0, 3)), [voice(3, term, True, first - 1)])
                self.assertEqual(take_ask(keeper, ask(second, term, 0, 0, 3)), [voice(3, term, second == first - 1, second)])
            self.assertEqual(keeper.voice, term - 1)

    def test_waking_keeps_the_voice(self):
        keeper = Keeper(1, THREE)
        take_ask(keeper, ask(0, 4, 0, 0, 1))
        keeper.wake()
        self.takes(keeper, ask(2, 4, 9, 3, 1), False)
        self.takes(keeper, ask(0, 4, 0, 0, 1), True)


class TakeVoice(unittest.TestCase, WholeState):
    def takes(self, keeper, letter, letters=(), **changes):
        self.takes_so(take_voice, keeper, letter, letters, **changes)

    def test_a_greater_term_is_heard_of_and_nothing_else(self):
        for given in (True, False):
            for keeper in on_all_ways(3):
                for term in (4, HUGE):
                    self.takes(twin_of(keeper), voice(1, term, given), term=term, voice=None, way="plain", voices=(), head=None,
                               waits=())

    def test_a_lower_term_changes_nothing(self):
        for given in (True, False):
            for keeper in on_all_ways(3):
                for term in (1, 2):
                    self.takes(twin_of(keeper), voice(1, term, given))

    def test_its_own_term_where_it_is_not_standing(self):
        for given in (True, False):
            plain, follower, stander, head = on_all_ways(3)
            for keeper in (plain, follower, head):
                for one in (1, 2, 7):
                    self.takes(twin_of(keeper), voice(one, 3, given))

    def test_not_given(self):
        keeper = standing(0, THREE, 3)
        for one in (1, 2, 8):
            self.takes(keeper, voice(one, 3, False))

    def test_voices_rise(self):
        for ones in itertools.permutations((0, 2, 5, 8)):
            keeper = standing(4, NINE, 2)
            for at, one in enumerate(ones[:3], start=1):
                self.takes(keeper, voice(one, 2, True, 4), voices=tuple(sorted(ones[:at] + (4,))))
            take_voice(keeper, voice(ones[3], 2, True, 4))
            self.assertEqual((keeper.way, keeper.voices), ("head", (0, 2, 4, 5, 8)))

    def test_the_same_voice_twice_counts_once(self):
        keeper = standing(0, FIVE, 2)
        self.takes(keeper, voice(1, 2, True), voices=(0, 1))
        for again in range(3):
            self.takes(keeper, voice(1, 2, True))
        take_voice(keeper, voice(2, 2, True))
        self.assertEqual((keeper.way, keeper.voices), ("head", (0, 1, 2)))

    def test_just_half_of_the_seats_and_one_more(self):
        for many in range(1, 10):
            seats = NINE[:many]
            keeper = Keeper(0, seats)
            stand(keeper)
            for one in range(1, many):
                self.assertEqual(keeper.way, "head" if 2 * one > many else "standing", (many, one))
                take_voice(keeper, voice(one, 1, True))
            self.assertEqual(keeper.way, "head")

    def test_one_that_is_not_of_its_seats(self):
        keeper = standing(0, THREE, 2)
        for at in range(3, 9):
            self.takes(keeper, voice(at, 2, True), voices=(0,) + tuple(range(3, at + 1)))
        take_voice(keeper, voice(2, 2, True))
        self.assertEqual((keeper.way, keeper.voices), ("head", (0, 2, 3, 4, 5, 6, 7, 8)))

    def test_its_own_voice_counts_for_nothing_where_it_is_not_of_its_seats(self):
        keeper = standing(5, THREE, 2)
        self.takes(keeper, voice(1, 2, True, 5), voices=(1, 5))
        self.assertEqual(keeper.way, "standing")

    def test_by_the_last_seats_of_its_row(self):
        row = (0, 0, (opened(1), seats_entry(1, 0, 1, 2, 3)))
        keeper = standing(0, THREE, 2, row)
        self.takes(keeper, voice(1, 2, True), voices=(0, 1))
        take_voice(keeper, voice(3, 2, True))
        self.assertEqual(keeper.way, "head")

    def test_a_voice_that_comes_behind_is_left_alone(self):
        keeper = standing(0, THREE, 2)
        take_voice(keeper, voice(1, 2, True))
        self.assertEqual(keeper.way, "head")
        self.takes(keeper, voice(2, 2, True))
        self.takes(keeper, voice(1, 2, True))

    def test_by_all_voices_of_few_seats(self):
        for seats in some_seats(4):
            for ones in itertools.permutations(range(1, 4)):
                keeper = standing(0, seats, 1)
                have = {0}
                for one in ones:
                    if keeper.way != "standing":
                        break
                    take_voice(keeper, voice(one, 1, True))
                    have.add(one)
                    self.assertEqual(keeper.voices, tuple(sorted(have)))
                    # Behind it nothing is agreed but by one seat alone; one that is out is plain at once.
                    enough = 2 * len(have & set(seats)) > len(seats)
                    self.assertEqual(keeper.way, ("head" if 0 in seats else "plain") if enough else "standing")


class ComesToBeHead(unittest.TestCase, WholeState):
    def head_by(self, keeper, one, letters, **changes):
        letter = voice(one, keeper.term, True, keeper.number)
        voices = tuple(sorted(keeper.voices + (one,)))
        self.takes_so(take_voice, keeper, letter, letters, voices=voices, **changes)

    def test_next_places_by_the_end_ahead_of_its_open_entry(self):
        keeper = standing(0, THREE, 1, nexts=nine(4, 5, 6), held=nine(1, 2, 3))
        letters = [hand(0, other, 1, 0, 0, (opened(1),)) for other in (1, 2)]
        self.head_by(keeper, 2, letters, way="head", head=0, nexts=(1,) * 9, held=(0,) * 9, row=(0, 0, (opened(1),)))

    def test_a_row_of_some_entries(self):
        entries = (opened(1), add_entry(1, "al", 1), opened(2))
        keeper = standing(1, THREE, 4, (0, 0, entries), agreed=2, store=((("x", 1),), (("al", 1, 1),)), held=nine(2, 2, 2))
        letters = [hand(1, other, 4, 3, 2, (opened(4),), 2) for other in (0, 2)]
        self.head_by(keeper, 0, letters, way="head", head=1, nexts=(4,) * 9, held=(0,) * 9, row=(0, 0, entries + (opened(4),)))

    def test_a_row_behind_a_pack(self):
        for entries, end, last in (((), 7, 3), ((opened(3), opened(5)), 9, 5)):
            keeper = standing(2, (5,), 6, (7, 3, entries), pack=PACK, agreed=7, store=STORE)
            letters = [hand(2, other, 6, end, last, (opened(6),), 7) for other in (0, 1)]
            self.head_by(keeper, 0, letters, way="head", head=2, nexts=(end + 1,) * 9, row=(7, 3, entries + (opened(6),)))

    def test_it_beats_to_each_other_one_of_its_seats_rising(self):
        for seats in ((0, 4), (1, 4, 8), (0, 2, 4, 6, 8), NINE):
            keeper = standing(4, seats, 1)
            letters = []
            for one in seats:
                letters = letters or (take_voice(keeper, voice(one, 1, True, 4)) if one != 4 else [])
            self.assertEqual(letters, [hand(4, other, 1, 0, 0, (opened(1),)) for other in seats if other != 4])

    def test_what_it_beats_is_what_beating_tells(self):
        keeper = standing(0, FIVE, 3, (0, 0, (opened(1), opened(2))), voices=(0, 3))
        letters = take_voice(keeper, voice(1, 3, True))
        self.assertEqual(letters, [letter for other in (1, 2, 3, 4) for letter in beat(keeper, other)])

    def test_the_letters_of_agreeing_are_given(self):
        """With one that stands no wishes wait; where some do, by its values, it is told of them as in all agreeing."""
        entries = (seats_entry(1, 3), add_entry(1, "al", 1), add_entry(1, "bob", 1))
        keeper = standing(3, THREE, 2, (0, 0, entries), waits=(("al", 1, 2), ("bob", 1, 3)))
        letters = [("told", 3, "al", 1, 1), ("told", 3, "bob", 1, 2)]
        store = ((("x", 2),), (("al", 1, 1), ("bob", 1, 2)))
        self.head_by(keeper, 1, letters, way="head", head=3, nexts=(4,) * 9, row=(0, 0, entries + (opened(2),)), agreed=4,
                     store=store, waits=())

    def test_nothing_is_agreed_by_itself_alone(self):
        keeper = standing(0, (0, 1), 2, (0, 0, (opened(1),)), held=nine(0, 9))
        take_voice(keeper, voice(1, 2, True))
        self.assertEqual((keeper.way, keeper.agreed, keeper.held), ("head", 0, (0,) * 9))

    def test_one_that_is_out_is_plain_already(self):
        keeper = standing(4, THREE, 2, voices=(0, 4))
        self.head_by(keeper, 1, [], way="plain", nexts=(1,) * 9, row=(0, 0, (opened(2),)))
        pack = (7, 3, (0, 1), STORE)
        keeper = standing(2, THREE, 5, (7, 3, (opened(3),)), pack=pack, agreed=7, store=STORE, voices=(0, 2))
        self.head_by(keeper, 1, [], way="plain", nexts=(9,) * 9, row=(7, 3, (opened(3), opened(5))))

    def test_one_that_is_out_and_knows_its_seats_place_to_be_agreed(self):
        entries = (opened(1), seats_entry(1, 1, 2), opened(2))
        for agreed in (2, 3):
            keeper = standing(0, THREE, 3, (0, 0, entries), agreed=agreed, voices=(0, 2))
            self.head_by(keeper, 1, [], way="plain", nexts=(4,) * 9, row=(0, 0, entries + (opened(3),)))

    def test_one_that_is_out_goes_on_as_long_as_that_is_not_agreed(self):
        entries = (opened(1), seats_entry(1, 1, 2), opened(2))
        for agreed in (0, 1):
            keeper = standing(0, THREE, 3, (0, 0, entries), agreed=agreed, voices=(0, 2))
            letters = [hand(0, other, 3, 3, 2, (opened(3),), agreed) for other in (1, 2)]
            self.head_by(keeper, 1, letters, way="head", head=0, nexts=(4,) * 9, row=(0, 0, entries + (opened(3),)))

    def test_a_head_that_stands_comes_to_be_head_anew(self):
        keeper = head_with(0, (0,), 2, (opened(2), add_entry(2, "al", 1)), agreed=1, nexts=nine(9, 9), held=nine(5, 5))
        ahead = values_of(keeper)
        self.gives(stand(keeper), [])
        self.has(keeper, ahead, term=3, row=(0, 0, keeper.row[2][:2] + (opened(3),)), nexts=(3,) * 9, held=(0,) * 9, agreed=3,
                 store=((("x", 1),), (("al", 1, 1),)))


class Lists(unittest.TestCase):
    def test_lists_that_are_given_are_new_ones(self):
        keeper = Keeper(0, THREE)
        asks = stand(keeper)
        asks.append("spoilt")
        hands = take_voice(keeper, voice(1, 1, True))
        self.assertEqual(asks[:2], [ask(0, 1, 0, 0, 1), ask(0, 1, 0, 0, 2)])
        hands.clear()
        self.assertEqual(len(beat(keeper, 1)), 1)
        nothing = take_voice(keeper, voice(2, 1, True))
        nothing.append("spoilt")
        self.assertEqual(take_voice(keeper, voice(2, 1, True)), [])
        voices = take_ask(keeper, ask(2, 1, 0, 0))
        voices.append("spoilt")
        self.assertEqual(take_ask(keeper, ask(2, 1, 0, 0)), [voice(0, 1, False, 2)])

    def test_what_was_read_of_a_keeper_stays(self):
        keeper = Keeper(0, THREE)
        ahead, twin = values_of(keeper), values_of(Keeper(0, THREE))
        stand(keeper)
        take_voice(keeper, voice(1, 1, True))
        take_ask(keeper, ask(2, 5, 9, 4))
        self.assertEqual(ahead, twin)
        self.assertEqual(keeper.store, fresh())
        self.assertEqual((keeper.term, keeper.voice), (5, 2))


if __name__ == "__main__":
    unittest.main()
