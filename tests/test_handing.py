import itertools
import unittest

from keeplog.agreeing import take_held
from keeplog.errors import NoPlace
from keeplog.handing import beat, take_hand, take_pack
from keeplog.keepers import Keeper, seats_now
from keeplog.stores import fresh, replayed
from tests.keeping import (
    THREE, WholeState, add_entry, head_with, keeper_with, nine, on_all_ways, opened, seats_entry, twin_of, values_of,
)
from tests.samples import HUGE, STORE

PACK = (7, 3, THREE, STORE)
OTHER_STORE = ((("y", 9),), (("cy", 4, 9),))


def hand(one, term, place, last, entries=(), agreed=0, other=0):
    return ("hand", one, other, term, place, last, entries, agreed)


def pack_letter(one, term, pack, other=0):
    return ("pack", one, other, term, pack)


def held(term, good, place, other=1, one=0):
    return ("held", one, other, term, good, place)


def adds(term, first, many):
    """So many entries of a term, by wishes of al from the first number on."""
    return tuple(add_entry(term, "al", number) for number in range(first, first + many))


class Beat(unittest.TestCase, WholeState):
    def beats(self, keeper, other, letters):
        self.takes_so(beat, keeper, other, letters)

    def based(self, following, many=3):
        """A head of term 5 with a row that begins behind a pack of the place 7, and a next place for keeper 1."""
        entries = (opened(4),) + adds(5, 1, many - 1)
        return head_with(0, (5,), 5, (), pack=PACK, row=(7, 3, entries), agreed=8, store=STORE, nexts=(11, following) + (11,) * 7)

    def test_a_next_place_at_base_and_below_it(self):
        for following in (1, 2, 6, 7):
            self.beats(self.based(following), 1, [pack_letter(0, 5, PACK, 1)])

    def test_a_next_place_one_above_base(self):
        self.beats(self.based(8), 1, [hand(0, 5, 7, 3, (opened(4),) + adds(5, 1, 2), 8, 1)])

    def test_a_next_place_at_the_end_and_one_above_it(self):
        self.beats(self.based(9), 1, [hand(0, 5, 8, 4, adds(5, 1, 2), 8, 1)])
        self.beats(self.based(10), 1, [hand(0, 5, 9, 5, adds(5, 2, 1), 8, 1)])
        self.beats(self.based(11), 1, [hand(0, 5, 10, 5, (), 8, 1)])

    def test_a_row_that_is_all_packed(self):
        keeper = head_with(0, (5,), 5, (), pack=PACK, row=(7, 3, ()), agreed=7, store=STORE, nexts=(8, 7, 8) + (8,) * 6)
        self.beats(keeper, 1, [pack_letter(0, 5, PACK, 1)])
        self.beats(keeper, 2, [hand(0, 5, 7, 3, (), 7, 2)])

    def test_base_0_is_never_packed(self):
        keeper = head_with(0, THREE, 2, (opened(1), opened(2)), nexts=nine(3, 1, 2))
        self.beats(keeper, 1, [hand(0, 2, 0, 0, (opened(1), opened(2)), 0, 1)])
        self.beats(keeper, 2, [hand(0, 2, 1, 1, (opened(2),), 0, 2)])

    def test_so_many_entries_and_no_more_than_5(self):
        entries = (opened(1),) + adds(2, 1, 7)
        for following in range(1, 10):
            keeper = head_with(0, THREE, 2, entries, nexts=(9, following) + (9,) * 7, agreed=3)
            last = entries[following - 2][0] if following > 1 else 0
            some = entries[following - 1:following + 4]
            self.assertEqual(len(some), min(5, 9 - following))
            self.beats(keeper, 1, [hand(0, 2, following - 1, last, some, 3, 1)])

    def test_more_than_5_entries_just_5_and_fewer_behind_a_pack(self):
        for many in range(1, 9):
            self.beats(self.based(8, many), 1, [hand(0, 5, 7, 3, ((opened(4),) + adds(5, 1, many - 1))[:5], 8, 1)])

    def test_agreed_is_told_as_it_is_known(self):
        for agreed in range(4):
            keeper = head_with(0, THREE, 1, adds(1, 1, 3), agreed=agreed)
            self.beats(keeper, 1, [hand(0, 1, 3, 1, (), agreed, 1)])

    def test_to_any_other_keeper(self):
        keeper = head_with(4, THREE, 3, (opened(1), opened(3)), nexts=(1, 2, 3, 1, 2, 3, 1, 2, 3))
        for other in (0, 1, 2, 3, 5, 6, 7, 8):
            place = (0, 1, 2)[other % 3]
            self.beats(keeper, other, [hand(4, 3, place, (0, 1, 3)[place], (opened(1), opened(3))[place:], 0, other)])

    def test_one_that_is_not_head(self):
        for way in ("plain", "standing"):
            for following in (1, 7, 8, 11):
                keeper = self.based(following)
                keeper.way = way
                self.beats(keeper, 1, [])
        self.beats(Keeper(0, THREE), 1, [])
        plain, follower, stander, head = on_all_ways(3)
        for keeper in (plain, follower, stander):
            self.beats(keeper, 1, [])
        self.beats(head, 1, [hand(0, 3, 1, 1, adds(3, 1, 1), 1, 1)])

    def test_a_next_place_that_its_row_has_no_term_ahead_of(self):
        """By a held that no keeper wrote; the term at such a place is refused."""
        for following in (12, 13, HUGE):
            keeper = self.based(following)
            ahead = values_of(keeper)
            with self.assertRaises(NoPlace):
                beat(keeper, 1)
            self.has(keeper, ahead)


class Follows(unittest.TestCase, WholeState):
    """What is the same with a hand and a pack: whose term counts, and whom it takes for head."""

    def letters(self, one, term):
        yield take_hand, hand(one, term, 0, 0)
        yield take_hand, hand(one, term, 2, HUGE, adds(3, 1, 2), 9)
        yield take_pack, pack_letter(one, term, PACK)
        yield take_pack, pack_letter(one, term, (1, 1, (8,), fresh()))

    def test_a_lower_term(self):
        for keeper in on_all_ways(4):
            for term in (1, 2, 3):
                for one in (1, 8):
                    for take, letter in self.letters(one, term):
                        self.takes_so(take, twin_of(keeper), letter, [held(4, False, 2, one)])

    def test_a_lower_term_and_a_row_behind_a_pack(self):
        keeper = keeper_with(2, THREE, term=HUGE, pack=PACK, row=(7, 3, (opened(4),)), agreed=7, store=STORE)
        for take, letter in self.letters(1, HUGE - 1):
            self.takes_so(take, keeper, letter, [held(HUGE, False, 8, 1, 2)])
        keeper = keeper_with(2, THREE, term=2)
        for take, letter in self.letters(1, 1):
            self.takes_so(take, keeper, letter, [held(2, False, 0, 1, 2)])

    def test_a_head_of_that_term(self):
        head = on_all_ways(4)[3]
        for one in (1, 2, 8):
            for take, letter in self.letters(one, 4):
                self.takes_so(take, head, letter, [])

    def test_its_own_term(self):
        for keeper in on_all_ways(4)[:3]:
            for one in (1, 2, 8):
                self.takes_so(take_hand, twin_of(keeper), hand(one, 4, 0, 0), [held(4, True, 0, one)], way="plain", voices=(),
                              head=one)
                self.takes_so(take_hand, twin_of(keeper), hand(one, 4, 9, 4), [held(4, False, 2, one)], way="plain", voices=(),
                              head=one)
                self.takes_so(take_pack, twin_of(keeper), pack_letter(one, 4, PACK), [held(4, True, 7, one)], way="plain",
                              voices=(), head=one, pack=PACK, row=(7, 3, ()), agreed=7, store=STORE)

    def test_a_greater_term_whatever_its_way(self):
        for keeper in on_all_ways(4):
            for term in (5, HUGE):
                changes = {"term": term, "voice": None, "way": "plain", "voices": (), "head": 1, "waits": ()}
                self.takes_so(take_hand, twin_of(keeper), hand(1, term, 0, 0), [held(term, True, 0)], **changes)
                self.takes_so(take_hand, twin_of(keeper), hand(1, term, 2, 9), [held(term, False, 1)], **changes)
                self.takes_so(take_pack, twin_of(keeper), pack_letter(1, term, PACK), [held(term, True, 7)], pack=PACK,
                              row=(7, 3, ()), agreed=7, store=STORE, **changes)

    def test_it_stands_no_more_and_keeps_its_voice(self):
        keeper = keeper_with(3, THREE, term=4, voice=3, way="standing", voices=(0, 3))
        self.takes_so(take_hand, keeper, hand(1, 4, 0, 0), [held(4, True, 0, 1, 3)], way="plain", voices=(), head=1)
        keeper = keeper_with(3, THREE, term=4, voice=3, way="standing", voices=(0, 3))
        self.takes_so(take_pack, keeper, pack_letter(0, 4, PACK), [held(4, True, 7, 0, 3)], way="plain", voices=(), head=0,
                      pack=PACK, row=(7, 3, ()), agreed=7, store=STORE)

    def test_one_that_was_head_and_stepped_back_has_voices_still(self):
        keeper = keeper_with(0, (1, 2), term=4, voice=0, voices=(0, 1))
        self.takes_so(take_hand, keeper, hand(2, 5, 0, 0), [held(5, True, 0, 2)], term=5, voice=None, voices=(), head=2)


class TakeHand(unittest.TestCase, WholeState):
    ENTRIES = (opened(1), add_entry(1, "al", 1), add_entry(2, "bob", 1), add_entry(2, "al", 2))

    def keeper(self, **values):
        """One that takes keeper 1 for head in term 4, with four entries of which one is agreed."""
        own = {"term": 4, "voice": 1, "head": 1, "row": (0, 0, self.ENTRIES), "agreed": 1}
        own.update(values)
        return keeper_with(0, THREE, **own)

    def based(self, agreed=7, **values):
        """One with the same entries behind a pack of the place 7."""
        own = {"pack": PACK, "row": (7, 3, self.LATER), "agreed": agreed, "store": replayed(STORE, self.LATER[:agreed - 7])}
        own.update(values)
        return self.keeper(**own)

    LATER = (opened(3), add_entry(3, "al", 2, "a"), add_entry(4, "cy", 1, "b"))

    def takes(self, keeper, letter, good, place, **changes):
        self.takes_so(take_hand, keeper, letter, [held(4, good, place)], **changes)

    def test_a_place_that_its_row_does_not_have(self):
        for entries in ((), adds(4, 3, 2)):
            for place in (5, 6, HUGE):
                for last in (1, 2, 4):
                    self.takes(self.keeper(), hand(1, 4, place, last, entries, place), False, 4)
            self.takes(Keeper(0, THREE), hand(1, 4, 1, 1, entries, 1), False, 0, term=4, head=1)
            self.takes(Keeper(0, THREE), hand(1, 4, 9, 1, entries, 1), False, 0, term=4, head=1)
            for place in (11, 12, HUGE):
                self.takes(self.based(), hand(1, 4, place, 4, entries, place), False, 10)

    def test_a_place_that_it_has_with_another_term(self):
        for entries in ((), adds(4, 3, 2)):
            for place, last in ((1, 2), (2, 2), (3, 1), (3, 3), (4, 1), (4, HUGE)):
                self.takes(self.keeper(), hand(1, 4, place, last, entries, 9), False, place - 1)
            for place, last in ((8, 2), (9, 4), (10, 3), (10, 5)):
                self.takes(self.based(), hand(1, 4, place, last, entries, 9), False, place - 1)
            # Of its base no keeper has another term; by such a letter the place is told like any other.
            self.takes(self.based(), hand(1, 4, 7, 2, entries, 9), False, 6)

    def test_a_place_that_it_has_with_that_term_and_no_entries(self):
        for place, last in ((0, 0), (1, 1), (2, 1), (3, 2), (4, 2)):
            self.takes(self.keeper(), hand(1, 4, place, last), True, place)
        for place, last in ((7, 3), (8, 3), (9, 3), (10, 4)):
            self.takes(self.based(), hand(1, 4, place, last), True, place)

    def test_entries_that_it_has_already(self):
        for place in range(5):
            last = self.ENTRIES[place - 1][0] if place else 0
            for many in range(5 - place):
                self.takes(self.keeper(), hand(1, 4, place, last, self.ENTRIES[place:place + many]), True, place + many)

    def test_entries_that_are_new(self):
        new = adds(4, 3, 2)
        self.takes(self.keeper(), hand(1, 4, 4, 2, new), True, 6, row=(0, 0, self.ENTRIES + new))
        self.takes(self.keeper(), hand(1, 4, 2, 1, self.ENTRIES[2:] + new), True, 6, row=(0, 0, self.ENTRIES + new))
        self.takes(Keeper(0, THREE), hand(1, 4, 0, 0, new), True, 2, term=4, head=1, row=(0, 0, new))
        self.takes(self.based(), hand(1, 4, 10, 4, new), True, 12, row=(7, 3, self.LATER + new))

    def test_entries_that_differ(self):
        new = adds(4, 3, 1)
        for place in (1, 2, 3):
            last = self.ENTRIES[place - 1][0]
            self.takes(self.keeper(), hand(1, 4, place, last, new), True, place + 1, row=(0, 0, self.ENTRIES[:place] + new))
        some = (self.ENTRIES[1], opened(3), opened(4))
        self.takes(self.keeper(), hand(1, 4, 1, 1, some), True, 4, row=(0, 0, self.ENTRIES[:1] + some))
        self.takes(self.based(), hand(1, 4, 8, 3, new), True, 9, row=(7, 3, self.LATER[:1] + new))

    def test_a_place_below_its_base_whatever_the_term(self):
        for place in (1, 4, 6):
            for last in (1, 3, HUGE):
                for many in range(6):
                    # Up to its base the entries are passed over, whatever they are; behind it they are its own.
                    some = (adds(1, 1, 7)[place:] + self.LATER)[:many]
                    self.takes(self.based(), hand(1, 4, place, last, some), True, max(place + len(some), 7))
        self.takes(self.based(), hand(1, 4, 0, 0, adds(1, 1, 5)), True, 7)

    def test_a_hand_from_below_its_base_that_brings_more(self):
        new = adds(4, 3, 1)
        self.takes(self.based(), hand(1, 4, 6, 9, adds(3, 1, 1) + self.LATER + new), True, 11, row=(7, 3, self.LATER + new))
        self.takes(self.based(), hand(1, 4, 6, 9, adds(3, 1, 1) + new), True, 8, row=(7, 3, new))

    def test_an_end_below_its_base_tells_its_base(self):
        for agreed in (0, 3, 6, 7, 9):
            self.takes(self.based(), hand(1, 4, 3, 2, adds(2, 1, 2), agreed), True, 7)

    def test_agreed_less_than_it_knew_or_the_same(self):
        store = replayed(fresh(), self.ENTRIES[:2])
        for agreed in (0, 1, 2):
            for place, last in ((2, 1), (4, 2)):
                self.takes(self.keeper(agreed=2, store=store), hand(1, 4, place, last, (), agreed), True, place)

    def test_agreed_more_than_it_knew(self):
        for ahead in range(3):
            for agreed in range(ahead + 1, 5):
                keeper = self.keeper(agreed=ahead, store=replayed(fresh(), self.ENTRIES[:ahead]))
                self.takes(keeper, hand(1, 4, 4, 2, (), agreed), True, 4, agreed=agreed,
                           store=replayed(fresh(), self.ENTRIES[:agreed]))

    def test_agreed_more_than_the_hands_end(self):
        """What its row has behind that end may be none of the head's."""
        for place, last in ((2, 1), (3, 2)):
            for agreed in (place, place + 1, 4, 9, HUGE):
                self.takes(self.keeper(), hand(1, 4, place, last, (), agreed), True, place, agreed=place,
                           store=replayed(fresh(), self.ENTRIES[:place]))
        self.takes(self.keeper(), hand(1, 4, 0, 0, (), 9), True, 0)
        self.takes(self.keeper(), hand(1, 4, 1, 1, (), 9), True, 1)
        self.takes(self.keeper(), hand(1, 4, 1, 1, self.ENTRIES[1:3], 4), True, 3, agreed=3,
                   store=replayed(fresh(), self.ENTRIES[:3]))

    def test_agreed_of_what_comes_in_the_same_hand(self):
        new = adds(4, 3, 2)
        whole = self.ENTRIES + new
        for agreed in (4, 5, 6):
            self.takes(self.keeper(), hand(1, 4, 4, 2, new, agreed), True, 6, row=(0, 0, whole), agreed=agreed,
                       store=replayed(fresh(), whole[:agreed]))
        other = (add_entry(4, "cy", 1, "x", 50),)
        self.takes(self.keeper(), hand(1, 4, 2, 1, other, 3), True, 3, row=(0, 0, self.ENTRIES[:2] + other), agreed=3,
                   store=replayed(fresh(), self.ENTRIES[:2] + other))

    def test_the_store_is_replayed_from_where_it_was(self):
        self.takes(self.keeper(store=OTHER_STORE), hand(1, 4, 4, 2, (), 3), True, 4, agreed=3,
                   store=replayed(OTHER_STORE, self.ENTRIES[1:3]))
        for ahead in (7, 8, 9):
            self.takes(self.based(ahead), hand(1, 4, 10, 4, (), 10), True, 10, agreed=10, store=replayed(STORE, self.LATER))

    def test_agreed_is_not_looked_at_where_the_place_is_refused(self):
        self.takes(self.keeper(), hand(1, 4, 5, 2, adds(4, 3, 1), 3), False, 4)
        self.takes(self.keeper(), hand(1, 4, 3, 1, adds(4, 3, 1), 3), False, 2)

    def test_nothing_waits_and_nothing_is_told(self):
        keeper = self.keeper()
        given = take_hand(keeper, hand(1, 4, 4, 2, (), 4))
        self.gives(given, [held(4, True, 4)])
        self.assertEqual(keeper.waits, ())

    def test_seats_come_into_force_with_the_entry_and_go_with_it(self):
        keeper = self.keeper()
        take_hand(keeper, hand(1, 4, 4, 2, (seats_entry(3, 0, 1),)))
        self.assertEqual((seats_now(keeper), keeper.agreed), ((0, 1), 1))
        take_hand(keeper, hand(1, 4, 4, 2, (opened(4),)))
        self.assertEqual(seats_now(keeper), THREE)

    def test_an_old_hand_takes_nothing_away(self):
        new = adds(4, 3, 5)
        keeper = self.keeper()
        take_hand(keeper, hand(1, 4, 4, 2, new, 9))
        ahead = values_of(keeper)
        for place, last, some in ((4, 2, new[:2]), (4, 2, ()), (2, 1, self.ENTRIES[2:]), (0, 0, ()), (9, 4, ())):
            take_hand(keeper, hand(1, 4, place, last, some, 1))
            self.has(keeper, ahead)

    def test_by_all_hands_of_a_few_small_entries(self):
        """Against a row that is filled here by its places."""
        choices = [terms for many in range(4) for terms in itertools.product((1, 2, 3), repeat=many)]
        for own, others in itertools.product(choices, repeat=2):
            for place, last in itertools.product(range(4), range(4)):
                keeper = keeper_with(0, THREE, term=3, row=(0, 0, tuple((term, ("own",)) for term in own)))
                entries = tuple((term, ("open",)) for term in others)
                given = take_hand(keeper, hand(1, 3, place, last, entries))
                good = place <= len(own) and (0,) * (place == 0) + own[place - 1:place] == (last,)
                wanted = [(term, ("own",)) for term in own]
                if good:
                    for at, entry in enumerate(entries, start=place):
                        if at >= len(wanted) or wanted[at][0] != entry[0]:
                            wanted = wanted[:at] + [entry]
                self.assertEqual(keeper.row, (0, 0, tuple(wanted)))
                told = place + len(entries) if good else min(place - 1, len(own))
                self.assertEqual(given, [held(3, good, told)])


class TakePack(unittest.TestCase, WholeState):
    ENTRIES = tuple(add_entry(term, "al", number) for number, term in enumerate((1, 1, 2, 2, 3), start=1))
    COME = ((("x", 40),), (("zoe", 2, 7),))

    def keeper(self, agreed, **values):
        own = {"term": 4, "voice": 1, "head": 1, "row": (0, 0, self.ENTRIES), "agreed": agreed,
               "store": replayed(fresh(), self.ENTRIES[:agreed])}
        own.update(values)
        return keeper_with(0, THREE, **own)

    def takes(self, keeper, come, **changes):
        self.takes_so(take_pack, keeper, pack_letter(1, 4, come), [held(4, True, come[0])], **changes)

    def test_a_place_at_most_what_it_knows_to_be_agreed(self):
        for agreed in range(1, 6):
            for place in range(1, agreed + 1):
                for last in (1, 2, 3):
                    self.takes(self.keeper(agreed), (place, last, (8,), self.COME))

    def test_a_greater_place_where_its_row_has_the_packs_last(self):
        for agreed in range(5):
            for place in range(agreed + 1, 6):
                last = self.ENTRIES[place - 1][0]
                pack = (place, last, (0, 1), self.COME)
                self.takes(self.keeper(agreed), pack, pack=pack, row=(place, last, self.ENTRIES[place:]), agreed=place,
                           store=self.COME)

    def test_a_greater_place_where_its_row_has_another_term(self):
        for place, last in ((2, 2), (3, 1), (4, 3), (5, 2), (5, 4)):
            pack = (place, last, (0, 1), self.COME)
            self.takes(self.keeper(1), pack, pack=pack, row=(place, last, ()), agreed=place, store=self.COME)

    def test_a_place_above_its_end(self):
        for place in (6, 7, HUGE):
            for last in (1, 3, HUGE):
                pack = (place, last, (0, 1), self.COME)
                self.takes(self.keeper(5), pack, pack=pack, row=(place, last, ()), agreed=place, store=self.COME)
        pack = (1, 1, (0, 1), self.COME)
        self.takes(keeper_with(0, THREE, term=4, head=1), pack, pack=pack, row=(1, 1, ()), agreed=1, store=self.COME)

    def test_one_that_has_a_pack_already(self):
        own = {"pack": PACK, "row": (7, 3, self.ENTRIES), "store": STORE}
        for place in (1, 6, 7):
            self.takes(self.keeper(7, **own), (place, 3, (8,), self.COME))
        for place in (8, 9):
            self.takes(self.keeper(9, **own), (place, 3, (8,), self.COME))
        for place, last, left in ((8, 1, 4), (10, 2, 2), (12, 3, 0), (10, 1, 0), (13, 3, 0)):
            pack = (place, last, (8,), self.COME)
            self.takes(self.keeper(7, **own), pack, pack=pack, row=(place, last, self.ENTRIES[5 - left:]), agreed=place,
                       store=self.COME)

    def test_its_seats_are_the_packs_where_its_row_has_none(self):
        keeper = self.keeper(0)
        take_pack(keeper, pack_letter(1, 4, (2, 1, (0, 8), self.COME)))
        self.assertEqual(seats_now(keeper), (0, 8))
        keeper = self.keeper(0, row=(0, 0, self.ENTRIES + (seats_entry(3, 0, 1),)))
        take_pack(keeper, pack_letter(1, 4, (2, 1, (0, 8), self.COME)))
        self.assertEqual(seats_now(keeper), (0, 1))

    def test_twice_is_once(self):
        keeper = self.keeper(0)
        pack = (3, 2, (0, 1), self.COME)
        take_pack(keeper, pack_letter(1, 4, pack))
        self.takes(keeper, pack)

    def test_what_comes_behind_a_pack_is_done_to_its_store(self):
        keeper = keeper_with(0, THREE, term=4, head=1)
        take_pack(keeper, pack_letter(1, 4, (7, 3, THREE, STORE)))
        self.takes_so(take_hand, keeper, hand(1, 4, 7, 3, adds(4, 2, 2), 9), [held(4, True, 9)], row=(7, 3, adds(4, 2, 2)), agreed=9,
                      store=replayed(STORE, adds(4, 2, 2)))

    def test_waking_behind_it(self):
        keeper = keeper_with(0, THREE, term=4, head=1)
        take_pack(keeper, pack_letter(1, 4, PACK))
        keeper.wake()
        self.assertEqual((keeper.pack, keeper.row, keeper.agreed, keeper.store), (PACK, (7, 3, ()), 7, STORE))


class Between(unittest.TestCase):
    """What one beats another one takes, and what that one writes a head takes: until its row is there."""

    def brought_on(self, head, other):
        """How many beats it takes until the other one has all."""
        for many in range(1, 40):
            letters = beat(head, other.number)
            for letter in letters:
                answers = (take_hand if letter[0] == "hand" else take_pack)(other, letter)
                for answer in answers:
                    take_held(head, answer)
            if head.held[other.number] == head.row[0] + len(head.row[2]):
                return many
        return None

    def may_be_both(self, own, others):
        """Rows that keepers have: where two are of one term at a place, they are the same up to there."""
        places = range(min(len(own), len(others)))
        return all(own[:at] == others[:at] for at in places if own[at] == others[at])

    def test_all_pairs_of_small_rows(self):
        rows = [terms for many in range(6) for terms in itertools.product((1, 2, 3), repeat=many) if tuple(sorted(terms)) == terms]
        pairs = [(own, others) for own, others in itertools.product(rows, repeat=2) if self.may_be_both(own, others)]
        for own, others in pairs:
            entries = tuple(opened(term) for term in own) + (opened(4),)
            head = head_with(0, THREE, 4, entries)
            other = keeper_with(1, THREE, term=4, row=(0, 0, tuple(opened(term) for term in others)))
            self.assertLessEqual(self.brought_on(head, other), 2 * len(entries) + 4)
            self.assertEqual(other.row, head.row)
            self.assertEqual(head.agreed, len(entries))

    def test_a_head_that_has_packed_up(self):
        head = head_with(0, (5,), 4, (), pack=PACK, row=(7, 3, adds(4, 2, 12)), agreed=7, store=STORE, nexts=(20,) * 9)
        other = keeper_with(1, THREE, term=4, row=(0, 0, adds(1, 1, 3)))
        # Back to its end, the pack, and three hands of entries.
        self.assertEqual(self.brought_on(head, other), 5)
        self.assertEqual((other.pack, other.row), (PACK, head.row))
        self.assertEqual(head.agreed, 19)
        beat_once = beat(head, 1)[0]
        take_hand(other, beat_once)
        self.assertEqual((other.agreed, other.store), (19, head.store))


class Lists(unittest.TestCase):
    def test_lists_that_are_given_are_new_ones(self):
        head = head_with(0, THREE, 1, (opened(1),), nexts=nine(2, 1, 1))
        keeper = Keeper(1, THREE)
        first = beat(head, 1)
        first.append("spoilt")
        self.assertEqual(beat(head, 1), [hand(0, 1, 0, 0, (opened(1),), 0, 1)])
        held_once = take_hand(keeper, first[0])
        held_once.append("spoilt")
        self.assertEqual(take_hand(keeper, first[0]), [held(1, True, 1, 0, 1)])
        nothing = take_pack(head, pack_letter(1, 1, PACK))
        nothing.append("spoilt")
        self.assertEqual(take_pack(head, pack_letter(1, 1, PACK)), [])
        none = beat(keeper, 0)
        none.append("spoilt")
        self.assertEqual(beat(keeper, 0), [])

    def test_what_was_read_of_a_keeper_stays(self):
        keeper = Keeper(1, THREE)
        ahead, twin = values_of(keeper), values_of(Keeper(1, THREE))
        take_hand(keeper, hand(0, 2, 0, 0, adds(1, 1, 3), 2, 1))
        take_pack(keeper, pack_letter(0, 2, PACK, 1))
        self.assertEqual(ahead, twin)
        self.assertNotEqual(values_of(keeper), twin)


if __name__ == "__main__":
    unittest.main()
