import unittest

from keeplog.errors import LogError, NoKeeper, NoPlace, NoRoom
from keeplog.keepers import Keeper, seats_now
from keeplog.packs import first_pack
from keeplog.rooms import Room
from keeplog.things import is_letter
from tests.keeping import THREE, add_entry, opened, seats_entry, wish_entry
from tests.rooming import ADD, GET, NO_SEATS, SET, bring_all, busy, headed, whole
from tests.samples import HUGE, NINE, SIXTY_ONE, some_seats


class WholeRoom(unittest.TestCase):
    def refuses(self, error, room, deed, *parts):
        """Refused, and nothing in the room is changed by that."""
        ahead, callers = whole(room), room.callers()
        with self.assertRaises(error) as caught:
            deed(*parts)
        self.assertIsInstance(caught.exception, LogError)
        self.assertEqual(whole(room), ahead)
        self.assertEqual(room.callers(), callers)

    def has_letters(self, room, *letters):
        self.assertEqual(room.letters(), list(letters))
        self.assertTrue(all(is_letter(letter) for letter in letters), letters)


class Made(WholeRoom):
    def test_of_each_size(self):
        for count in range(1, 10):
            room = Room(count, NINE[:count])
            self.assertEqual(room.size(), count)
            for k in range(count):
                keeper = room.keeper(k)
                self.assertIsInstance(keeper, Keeper)
                self.assertEqual((keeper.number, keeper.term, keeper.way), (k, 0, "plain"))
                self.assertEqual((keeper.row, keeper.pack), ((0, 0, ()), first_pack(NINE[:count])))
            self.assertEqual((room.letters(), room.callers()), ([], []))

    def test_of_all_seats_that_it_may_have(self):
        for count in range(1, 10):
            for seats in some_seats(count):
                room = Room(count, seats)
                self.assertEqual([seats_now(room.keeper(k)) for k in range(count)], [seats] * count)

    def test_too_few_and_too_many(self):
        for count in (0, 10, 11, -1, -3, 100, HUGE, -HUGE):
            for seats in ((0,), (0, 1), NINE, ()):
                with self.assertRaises(NoRoom):
                    Room(count, seats)

    def test_seats_of_numbers_that_it_does_not_have(self):
        for count in range(1, 10):
            for seats in some_seats(9):
                if seats[-1] >= count:
                    with self.assertRaises(NoRoom):
                        Room(count, seats)

    def test_what_are_no_seats(self):
        for count in (1, 3, 9):
            for seats in NO_SEATS:
                with self.subTest(seats=seats), self.assertRaises(NoRoom) as caught:
                    Room(count, seats)
                self.assertIsInstance(caught.exception, LogError)

    def test_one_seat_alone(self):
        room = Room(4, (2,))
        self.assertIsNone(room.stand(2))
        self.assertEqual((room.keeper(2).way, room.keeper(2).agreed), ("head", 1))
        self.has_letters(room)

    def test_seats_that_are_not_all_of_the_keepers(self):
        room = Room(5, (1, 3, 4))
        room.stand(3)
        self.has_letters(room, ("ask", 3, 1, 1, 0, 0), ("ask", 3, 4, 1, 0, 0))
        bring_all(room)
        self.assertEqual([room.keeper(k).row[2] for k in range(5)], [(), (opened(1),), (), (opened(1),), (opened(1),)])

    def test_one_that_has_no_seat_stands_too(self):
        room = Room(3, (0, 1))
        room.stand(2)
        self.has_letters(room, ("ask", 2, 0, 1, 0, 0), ("ask", 2, 1, 1, 0, 0))
        bring_all(room)
        # Head, and plain again at once, as it is not of its seats.
        keeper = room.keeper(2)
        self.assertEqual((keeper.way, keeper.head, keeper.voices, keeper.row[2]), ("plain", None, (0, 1, 2), (opened(1),)))

    def test_numbers_of_keepers(self):
        for count in (1, 3, 9):
            room = Room(count, (0,))
            for k in (-1, -count, count, count + 1, 9, HUGE, -HUGE):
                self.refuses(NoKeeper, room, room.keeper, k)


class Callers(WholeRoom):
    def test_in_the_order_in_which_they_are_first_named(self):
        room = Room(3, THREE)
        room.wish("zoe", GET)
        room.again("bob")
        room.turn("al", 1)
        room.wish("cy", GET)
        for again in range(2):
            room.again("cy")
            room.turn("bob", 2)
            room.wish("al", GET)
            room.wish("zoe", SET)
        self.assertEqual(room.callers(), ["zoe", "bob", "al", "cy"])

    def test_each_asks_keeper_0_at_first(self):
        for seats in (THREE, (1, 2), (2,)):
            room = Room(3, seats)
            for name in ("al", "bob"):
                self.assertIsNone(room.wish(name, ADD))
            self.has_letters(room, ("wish", "al", 0, 1, ADD), ("wish", "bob", 0, 1, ADD))

    def test_wishes_while_it_waits_and_while_it_does_not(self):
        room = Room(1, (0,))
        room.stand(0)
        for number in (1, 2, 3):
            for deed in (ADD, SET, GET):
                room.wish("al", deed)
            self.has_letters(room, ("wish", "al", 0, number, ADD))
            bring_all(room)
            self.assertEqual(room.answers("al"), [(past, 7 * past) for past in range(1, number + 1)])

    def test_says_it_again(self):
        room = Room(2, (0, 1))
        room.wish("al", SET)
        for again in range(2):
            self.assertIsNone(room.again("al"))
        self.has_letters(room, *[("wish", "al", 0, 1, SET)] * 3)

    def test_says_again_what_it_never_wished(self):
        room = Room(2, (0, 1))
        self.assertIsNone(room.again("al"))
        self.has_letters(room)
        self.assertEqual((room.callers(), room.answers("al")), (["al"], []))
        room.wish("al", SET)
        self.has_letters(room, ("wish", "al", 0, 1, SET))

    def test_turns_to_a_keeper(self):
        room = Room(9, NINE)
        for k in range(9):
            self.assertIsNone(room.turn("al", k))
            room.wish("al", SET)
            room.again("al")
            self.assertEqual(room.letters()[-1], ("wish", "al", k, 1, SET))
        self.assertEqual((len(room.letters()), room.callers()), (10, ["al"]))

    def test_turns_ahead_of_its_first_wish(self):
        room = Room(3, (0, 1))
        room.turn("bob", 2)
        self.has_letters(room)
        self.assertEqual(room.callers(), ["bob"])
        room.wish("bob", GET)
        room.wish("al", GET)
        self.has_letters(room, ("wish", "bob", 2, 1, GET), ("wish", "al", 0, 1, GET))

    def test_a_turn_that_is_refused(self):
        room = Room(3, THREE)
        for k in (3, 8, 9, -1, HUGE):
            self.refuses(NoKeeper, room, room.turn, "al", k)
        self.assertEqual(room.callers(), [])
        room.turn("bob", 1)
        self.refuses(NoKeeper, room, room.turn, "al", 3)
        self.refuses(NoKeeper, room, room.turn, "bob", 3)
        room.wish("bob", GET)
        room.wish("al", GET)
        self.has_letters(room, ("wish", "bob", 1, 1, GET), ("wish", "al", 0, 1, GET))
        self.assertEqual(room.callers(), ["bob", "al"])

    def test_answers_of_one_that_was_never_named(self):
        room = busy()
        for name in ("zoe", "a", "bobb"):
            ahead = whole(room)
            self.assertEqual(room.answers(name), [])
            self.assertEqual(whole(room), ahead)
        self.assertEqual(room.callers(), ["al", "bob"])
        self.assertEqual(room.answers("al"), [(1, 7)])
        self.assertEqual(room.answers("bob"), [])


class Deeds(WholeRoom):
    """Each deed once, and what comes on the road by it."""

    def test_a_keeper_stands(self):
        room = Room(4, (0, 1, 3))
        self.assertIsNone(room.stand(1))
        self.has_letters(room, ("ask", 1, 0, 1, 0, 0), ("ask", 1, 3, 1, 0, 0))
        self.assertIsNone(room.stand(0))
        self.has_letters(room, ("ask", 1, 0, 1, 0, 0), ("ask", 1, 3, 1, 0, 0), ("ask", 0, 1, 1, 0, 0), ("ask", 0, 3, 1, 0, 0))
        self.assertEqual([room.keeper(k).way for k in range(4)], ["standing", "standing", "plain", "plain"])

    def test_letters_between_keepers_are_brought(self):
        room = Room(3, THREE)
        room.stand(0)
        self.assertIsNone(room.bring(1))
        self.has_letters(room, ("ask", 0, 1, 1, 0, 0), ("voice", 2, 0, 1, True))
        room.bring(1)
        hands = [("hand", 0, other, 1, 0, 0, (opened(1),), 0) for other in (1, 2)]
        self.has_letters(room, ("ask", 0, 1, 1, 0, 0), *hands)
        room.bring(2)
        self.has_letters(room, ("ask", 0, 1, 1, 0, 0), hands[0], ("held", 2, 0, 1, True, 1))
        room.bring(2)
        self.has_letters(room, ("ask", 0, 1, 1, 0, 0), hands[0])
        self.assertEqual((room.keeper(0).agreed, room.keeper(2).agreed), (1, 0))

    def test_a_keeper_beats(self):
        room = headed(4, THREE)
        for other in (1, 2):
            self.assertIsNone(room.beat(0, other))
            self.assertEqual(room.letters()[-1], ("hand", 0, other, 1, 1, 1, (), 1))
        # To one that has no seat too; it was never handed anything.
        room.beat(0, 3)
        self.assertEqual(room.letters()[2:], [("hand", 0, 3, 1, 0, 0, (opened(1),), 1)])
        for k in (1, 2, 3):
            self.assertIsNone(room.beat(k, 0))
        self.assertEqual(len(room.letters()), 3)

    def test_a_pack_is_handed_on(self):
        room = headed(4, THREE)
        self.assertIs(room.pack_up(0, 1), True)
        pack = (1, 1, THREE, ((), ()))
        self.assertEqual((room.keeper(0).pack, room.keeper(0).row), (pack, (1, 1, ())))
        room.beat(0, 3)
        self.has_letters(room, ("pack", 0, 3, 1, pack))
        room.bring(0)
        self.has_letters(room, ("held", 3, 0, 1, True, 1))
        self.assertEqual((room.keeper(3).pack, room.keeper(3).row, room.keeper(3).agreed), (pack, (1, 1, ()), 1))

    def test_a_wish_is_brought_and_answered(self):
        room = headed()
        room.wish("al", ADD)
        room.bring(0)
        self.has_letters(room)
        self.assertEqual(room.keeper(0).row[2], (opened(1), add_entry(1, "al", 1, "x", 7)))
        room.beat(0, 1)
        room.bring(0)
        room.bring(0)
        self.has_letters(room, ("told", 0, "al", 1, 7))
        self.assertEqual(room.answers("al"), [])
        self.assertIsNone(room.bring(0))
        self.has_letters(room)
        self.assertEqual(room.answers("al"), [(1, 7)])

    def test_an_away_is_brought(self):
        room = headed(3, THREE, 2)
        room.wish("al", ADD)
        room.bring(0)
        self.has_letters(room, ("away", 0, "al", 1, 2))
        self.assertIsNone(room.bring(0))
        self.has_letters(room)
        room.again("al")
        self.has_letters(room, ("wish", "al", 2, 1, ADD))

    def test_an_away_that_names_none(self):
        room = Room(3, THREE)
        room.turn("al", 1)
        room.wish("al", ADD)
        room.bring(0)
        self.has_letters(room, ("away", 1, "al", 1, None))
        room.bring(0)
        room.again("al")
        self.has_letters(room, ("wish", "al", 1, 1, ADD))

    def test_a_letter_to_a_keeper_is_doubled(self):
        room = Room(3, THREE)
        room.stand(0)
        asks = room.letters()
        for many in (1, 2):
            self.assertIsNone(room.double(1))
            self.has_letters(room, *asks + [("voice", 2, 0, 1, True)] * many)
        room.wish("al", ADD)
        wish = ("wish", "al", 0, 1, ADD)
        room.double(4)
        self.assertEqual(room.letters()[4:], [wish, ("away", 0, "al", 1, None)])

    def test_a_letter_to_a_caller_is_doubled(self):
        room = Room(1, (0,))
        room.stand(0)
        room.wish("al", ADD)
        room.bring(0)
        told = ("told", 0, "al", 1, 7)
        for again in range(2):
            self.assertIsNone(room.double(0))
            self.has_letters(room, told)
            self.assertEqual(room.answers("al"), [(1, 7)])
        room.bring(0)
        self.assertEqual((room.letters(), room.answers("al")), ([], [(1, 7)]))

    def test_a_letter_is_lost(self):
        room = busy()
        while room.letters():
            letters = room.letters()
            at = len(letters) // 2
            keepers = [whole(room.keeper(k)) for k in range(3)]
            self.assertIsNone(room.lose(at))
            self.assertEqual(room.letters(), letters[:at] + letters[at + 1:])
            self.assertEqual([whole(room.keeper(k)) for k in range(3)], keepers)
        room = Room(1, (0,))
        room.stand(0)
        room.wish("al", ADD)
        room.bring(0)
        room.lose(0)
        self.assertEqual((room.letters(), room.answers("al")), ([], []))

    def test_of_letters_that_are_the_same_one_is_brought(self):
        room = headed()
        room.wish("al", ADD)
        room.again("al")
        room.wish("bob", SET)
        room.again("al")
        room.bring(3)
        self.has_letters(room, *[("wish", "al", 0, 1, ADD)] * 2 + [("wish", "bob", 0, 1, SET)])

    def test_a_keeper_moves_seats(self):
        room = headed(4)
        self.assertIs(room.move(0, (0, 1, 2, 3)), True)
        self.has_letters(room)
        self.assertEqual(room.keeper(0).row[2], (opened(1), seats_entry(1, 0, 1, 2, 3)))
        # Not ahead of its being agreed.
        self.assertIs(room.move(0, THREE), False)
        self.assertEqual(seats_now(room.keeper(0)), (0, 1, 2, 3))

    def test_a_move_that_is_not_done(self):
        room = headed(5)
        for k, seats in ((0, THREE), (0, (0, 1, 2, 3, 4)), (0, (0,)), (0, (1, 2, 3)), (1, (0, 1)), (4, (0, 1)), (4, (4,))):
            ahead = whole(room)
            self.assertIs(room.move(k, seats), False)
            self.assertEqual(whole(room), ahead)

    def test_what_a_move_writes(self):
        room = Room(2, (0, 1))
        room.stand(0)
        bring_all(room)
        room.wish("al", ADD)
        room.bring(0)
        # By the move it is agreed at once: there is no other seat any more.
        self.assertIs(room.move(0, (0,)), True)
        self.has_letters(room, ("told", 0, "al", 1, 7))
        self.assertEqual(room.keeper(0).agreed, 3)

    def test_a_keeper_packs_up(self):
        room = headed()
        for place in (2, 0, -1, HUGE, -HUGE):
            ahead = whole(room)
            self.assertIs(room.pack_up(0, place), False)
            self.assertEqual(whole(room), ahead)
        # The others know nothing to be agreed yet.
        self.assertIs(room.pack_up(1, 1), False)
        self.assertIs(room.pack_up(0, 1), True)
        self.assertIs(room.pack_up(0, 1), False)
        self.assertEqual(room.keeper(0).row, (1, 1, ()))
        self.has_letters(room)

    def test_a_keeper_wakes(self):
        room = headed()
        room.wish("al", ADD)
        room.bring(0)
        row = room.keeper(0).row
        self.assertIsNone(room.wake(0))
        keeper = room.keeper(0)
        self.assertEqual((keeper.way, keeper.agreed, keeper.head, keeper.waits), ("plain", 0, None, ()))
        self.assertEqual((keeper.row, keeper.term, keeper.voice), (row, 1, 0))
        self.has_letters(room)
        self.assertEqual(room.keeper(1).head, 0)

    def test_the_keeper_that_is_given_is_the_one_of_the_room(self):
        room = Room(3, THREE)
        keeper = room.keeper(1)
        room.stand(1)
        self.assertEqual((keeper.way, keeper.term), ("standing", 1))


class Letters(WholeRoom):
    def test_in_the_order_in_which_they_are_written(self):
        room = Room(4, (0, 1, 2, 3))
        room.wish("bob", GET)
        room.stand(2)
        room.wish("al", ADD)
        room.bring(1)
        asks = [("ask", 2, other, 1, 0, 0) for other in (1, 3)]
        wishes = [("wish", "bob", 0, 1, GET), ("wish", "al", 0, 1, ADD)]
        self.has_letters(room, wishes[0], *asks, wishes[1], ("voice", 0, 2, 1, True))
        room.bring(0)
        room.bring(0)
        self.has_letters(room, asks[1], wishes[1], ("voice", 0, 2, 1, True), ("away", 0, "bob", 1, None),
                         ("voice", 1, 2, 1, True))

    def test_numbers_of_over_sixty_figures(self):
        room = headed(2, (0, 1))
        for number, value in enumerate((SIXTY_ONE, HUGE, -HUGE * HUGE), start=1):
            deed = ("set", "x", value)
            room.wish("al", deed)
            self.has_letters(room, ("wish", "al", 0, number, deed))
            room.bring(0)
            room.beat(0, 1)
            hand = room.letters()[0]
            self.assertEqual((hand[0], hand[6]), ("hand", (wish_entry(1, "al", number, deed),)))
            room.bring(0)
            room.bring(0)
            self.assertEqual(room.letters()[0][:4], ("told", 0, "al", number))
            room.bring(0)
        self.assertEqual(room.answers("al"), [(1, 0), (2, SIXTY_ONE), (3, HUGE)])
        room.wish("al", GET)
        room.bring(0)
        room.beat(0, 1)
        room.bring(0)
        room.bring(0)
        self.has_letters(room, ("told", 0, "al", 4, -HUGE * HUGE))

    def test_a_pack_with_numbers_of_over_sixty_figures(self):
        room = Room(2, (0,))
        room.stand(0)
        room.wish("al", ("add", "x", HUGE))
        bring_all(room)
        room.pack_up(0, 2)
        room.move(0, (0, 1))
        room.beat(0, 1)
        while room.letters()[0][0] != "pack":
            room.bring(0)
            room.beat(0, 1)
        room.bring(0)
        self.assertEqual(room.keeper(1).store, ((("x", HUGE),), (("al", 1, HUGE),)))


class Refused(WholeRoom):
    def rooms(self):
        return [Room(3, THREE), headed(), busy()]

    def test_numbers_that_are_no_keepers(self):
        for room in self.rooms():
            for k in (3, 4, 8, 9, -1, -3, HUGE, -HUGE):
                self.refuses(NoKeeper, room, room.stand, k)
                self.refuses(NoKeeper, room, room.wake, k)
                self.refuses(NoKeeper, room, room.keeper, k)
                for other in (0, 1, 2, 3, k):
                    self.refuses(NoKeeper, room, room.beat, k, other)
                    self.refuses(NoKeeper, room, room.beat, other, k)
                for seats in (THREE, (0, 1), (0, 1, 2, 3), (8,)):
                    self.refuses(NoKeeper, room, room.move, k, seats)
                for place in (0, 1, -1, HUGE):
                    self.refuses(NoKeeper, room, room.pack_up, k, place)
                for name in ("al", "bob", "zoe"):
                    self.refuses(NoKeeper, room, room.turn, name, k)

    def test_a_beat_to_itself(self):
        for room in self.rooms():
            for k in range(3):
                self.refuses(NoKeeper, room, room.beat, k, k)

    def test_the_greatest_number_of_a_room_of_each_size(self):
        for count in range(1, 10):
            room = Room(count, (0,))
            room.stand(count - 1)
            room.wake(count - 1)
            room.turn("al", count - 1)
            for deed in (room.stand, room.wake):
                self.refuses(NoKeeper, room, deed, count)

    def test_a_move_to_seats_that_the_room_has_not(self):
        for room in self.rooms():
            for k in range(3):
                for seats in some_seats(9):
                    if seats[-1] > 2:
                        self.refuses(NoKeeper, room, room.move, k, seats)

    def test_a_move_to_what_are_no_seats(self):
        for room in self.rooms():
            for seats in NO_SEATS:
                self.refuses(NoKeeper, room, room.move, 0, seats)

    def test_places_that_the_road_does_not_have(self):
        for room in self.rooms():
            many = len(room.letters())
            for at in (many, many + 1, -1, -many, -many - 1, HUGE, -HUGE):
                if not 0 <= at < many:
                    for deed in (room.bring, room.double, room.lose):
                        self.refuses(NoPlace, room, deed, at)

    def test_an_empty_road(self):
        room = headed()
        for at in (0, 1, -1):
            for deed in (room.bring, room.double, room.lose):
                self.refuses(NoPlace, room, deed, at)


class Lists(WholeRoom):
    def test_lists_that_are_given_changed_by_their_owner(self):
        room = busy()
        for ask in (room.letters, room.callers, lambda: room.answers("al"), lambda: room.answers("bob"),
                    lambda: room.answers("zoe")):
            ahead, first = whole(room), ask()
            self.assertIsInstance(first, list)
            given = ask()
            given.append("spoilt")
            given[0] = "spoilt"
            self.assertEqual(ask(), first)
            ask().clear()
            self.assertEqual(ask(), first)
            self.assertEqual(whole(room), ahead)

    def test_lists_that_are_given_stay_as_they_were(self):
        room = busy()
        given = (room.letters(), room.callers(), room.answers("al"), room.answers("bob"), room.answers("zoe"))
        ahead = whole(given)
        room.wish("zoe", GET)
        room.wish("al", GET)
        bring_all(room)
        for again in range(2):
            for name in room.callers():
                room.again(name)
            bring_all(room)
            room.beat(0, 1)
            bring_all(room)
        self.assertEqual([len(room.answers(name)) for name in ("al", "bob", "zoe")], [2, 1, 1])
        self.assertEqual(whole(given), ahead)


class TwoRooms(WholeRoom):
    def test_beside_one_another(self):
        one, other = Room(3, THREE), Room(3, THREE)
        ahead = whole(other)
        one.stand(0)
        one.wish("al", ADD)
        bring_all(one)
        one.again("al")
        one.turn("bob", 1)
        one.pack_up(0, 1)
        self.assertEqual(whole(other), ahead)
        other.wish("zoe", SET)
        self.assertEqual((one.callers(), other.callers()), (["al", "bob"], ["zoe"]))
        self.has_letters(one, ("wish", "al", 0, 1, ADD))
        self.has_letters(other, ("wish", "zoe", 0, 1, SET))

    def test_the_same_done_in_both(self):
        one, other = busy(), busy()
        self.assertEqual(whole(one), whole(other))
        for room in (one, other):
            bring_all(room)
            room.stand(2)
            bring_all(room)
        self.assertEqual(whole(one), whole(other))


if __name__ == "__main__":
    unittest.main()
