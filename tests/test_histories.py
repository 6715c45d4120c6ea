import unittest

from keeplog.histories import done_in, log_of, state_of
from keeplog.rooms import Room
from keeplog.stores import fresh
from tests.keeping import THREE, add_entry, opened, seats_entry
from tests.planning import chance_schedule
from tests.rooming import ADD, GET, NO_SEATS, SET, bring_all, busy, headed, whole
from tests.samples import HUGE

FIRST_PACK = (0, 0, THREE, ((), ()))
WISH = add_entry(1, "al", 1, "x", 7)


def keeper_with(entries, agreed, base=0, last=0):
    """A keeper of a state of the test's own making; of the log nothing is asked but its row and how far it is agreed."""
    return (1, "plain", None, (base, last, entries), agreed, fresh(), (base, last, THREE, fresh()))


def state_with(*keepers):
    return (keepers, (), ())


class DoneIn(unittest.TestCase):
    def tells(self, room, deed, word):
        self.assertEqual(done_in(room, deed), word)

    def refuses(self, room, deed):
        ahead = whole(room)
        self.tells(room, deed, "refused")
        self.assertEqual(whole(room), ahead)

    def like(self, make, deed, act, word="done"):
        """Done by its tuple in one room and by its name in another, it comes to the same."""
        room, other = make(), make()
        ahead = whole(room)
        self.tells(room, deed, word)
        act(other)
        self.assertEqual(whole(room), whole(other))
        return whole(room) != ahead


class Deeds(DoneIn):
    def test_of_keepers(self):
        for make in (lambda: Room(3, THREE), headed, busy):
            for k in range(3):
                self.assertTrue(self.like(make, ("stand", k), lambda room: room.stand(k)))
                self.like(make, ("wake", k), lambda room: room.wake(k))
                for other in range(3):
                    if other != k:
                        self.like(make, ("beat", k, other), lambda room: room.beat(k, other))
        self.assertTrue(self.like(busy, ("wake", 0), lambda room: room.wake(0)))
        self.assertTrue(self.like(busy, ("beat", 0, 2), lambda room: room.beat(0, 2)))

    def test_of_callers(self):
        for make in (lambda: Room(3, THREE), headed, busy):
            for name in ("al", "bob", "zoe"):
                for deed in (ADD, SET, GET, ("set", "y", HUGE)):
                    self.like(make, ("wish", name, deed), lambda room: room.wish(name, deed))
                self.like(make, ("again", name), lambda room: room.again(name))
                for k in range(3):
                    self.like(make, ("turn", name, k), lambda room: room.turn(name, k))
        self.assertTrue(self.like(busy, ("wish", "zoe", ADD), lambda room: room.wish("zoe", ADD)))
        self.assertTrue(self.like(busy, ("again", "bob"), lambda room: room.again("bob")))
        self.assertTrue(self.like(busy, ("again", "zoe"), lambda room: room.again("zoe")))
        self.assertTrue(self.like(busy, ("turn", "al", 1), lambda room: room.turn("al", 1)))

    def test_of_letters(self):
        for at in range(len(busy().letters())):
            self.assertTrue(self.like(busy, ("bring", at), lambda room: room.bring(at)))
            self.assertTrue(self.like(busy, ("lose", at), lambda room: room.lose(at)))
            self.like(busy, ("double", at), lambda room: room.double(at))
        self.assertTrue(self.like(busy, ("double", 0), lambda room: room.double(0)))

    def test_a_move(self):
        def make():
            return headed(4)
        self.assertTrue(self.like(make, ("move", 0, (0, 1)), lambda room: room.move(0, (0, 1))))
        self.assertTrue(self.like(make, ("move", 0, (0, 1, 2, 3)), lambda room: room.move(0, (0, 1, 2, 3))))
        for k, seats in ((0, THREE), (0, (0,)), (1, (0, 1)), (3, (0, 1))):
            self.assertFalse(self.like(make, ("move", k, seats), lambda room: room.move(k, seats), "not done"))

    def test_a_packing_up(self):
        self.assertTrue(self.like(headed, ("pack", 0, 1), lambda room: room.pack_up(0, 1)))
        for k, place in ((0, 0), (0, 2), (0, 999999), (1, 1), (2, 0)):
            self.assertFalse(self.like(headed, ("pack", k, place), lambda room: room.pack_up(k, place), "not done"))


class Refused(DoneIn):
    def test_numbers_that_the_room_has_not(self):
        for room in (Room(3, THREE), headed(), busy()):
            for k in range(3, 9):
                for deed in (("stand", k), ("wake", k), ("beat", k, 0), ("beat", 0, k), ("beat", k, k), ("turn", "al", k), ("turn", "zoe", k),
                             ("move", k, (0, 1)), ("move", 0, (0, 1, 2, k)), ("move", 1, (k,)), ("pack", k, 1)):
                    self.refuses(room, deed)

    def test_a_beat_to_itself(self):
        for room in (Room(3, THREE), headed()):
            for k in range(3):
                self.refuses(room, ("beat", k, k))

    def test_no_letter_on_the_road(self):
        for room in (Room(3, THREE), headed(), Room(1, (0,))):
            for at in (0, 1, 2, 999999):
                for word in ("bring", "double", "lose"):
                    self.refuses(room, (word, at))

    def test_a_move_to_what_are_no_seats(self):
        for seats in NO_SEATS:
            self.refuses(headed(), ("move", 0, seats))


class CountedRound(DoneIn):
    def test_with_one_letter(self):
        for at in (0, 1, 2, 7, 999999):
            for word in ("bring", "double", "lose"):
                room = Room(2, (0, 1))
                room.stand(0)
                self.tells(room, (word, at), "done")
                voice, ask = ("voice", 1, 0, 1, True), ("ask", 0, 1, 1, 0, 0)
                self.assertEqual(room.letters(), {"bring": [voice], "double": [ask, voice], "lose": []}[word])

    def test_with_several(self):
        many = len(busy().letters())
        self.assertGreater(many, 2)
        for at in list(range(3 * many + 1)) + [999999, 10 ** 6, HUGE]:
            self.like(busy, ("bring", at), lambda room: room.bring(at % many))
            self.like(busy, ("double", at), lambda room: room.double(at % many))
            self.like(busy, ("lose", at), lambda room: room.lose(at % many))

    def test_by_how_many_there_are_then(self):
        room = Room(1, (0,))
        for name in ("al", "bob", "cy", "dan", "zoe"):
            room.wish(name, GET)
        left = [[letter[1] for letter in room.letters()]]
        for again in range(5):
            self.tells(room, ("lose", 7), "done")
            left.append([letter[1] for letter in room.letters()])
        self.assertEqual(left, [["al", "bob", "cy", "dan", "zoe"], ["al", "bob", "dan", "zoe"], ["al", "bob", "dan"], ["al", "dan"],
                                ["al"], []])
        self.refuses(room, ("lose", 7))


class States(unittest.TestCase):
    def test_at_first(self):
        for count in range(1, 10):
            for seats in ((0,), tuple(range(count)), (count - 1,)):
                keeper = (0, "plain", None, (0, 0, ()), 0, ((), ()), (0, 0, seats, ((), ())))
                self.assertEqual(state_of(Room(count, seats)), ((keeper,) * count, (), ()))

    def test_of_a_room_in_which_much_was_done(self):
        room = headed()
        plain = (1, "plain", 0, (0, 0, (opened(1),)), 0, ((), ()), FIRST_PACK)
        self.assertEqual(state_of(room), (((1, "head", 0, (0, 0, (opened(1),)), 1, ((), ()), FIRST_PACK), plain, plain), (), ()))
        room.again("zoe")
        room.wish("al", ADD)
        room.bring(0)
        room.beat(0, 1)
        bring_all(room)
        room.pack_up(0, 1)
        room.wish("bob", SET)
        store = ((("x", 7),), (("al", 1, 7),))
        rows = (0, 0, (opened(1), WISH))
        keepers = (
            (1, "head", 0, (1, 1, (WISH,)), 2, store, (1, 1, THREE, ((), ()))),
            (1, "plain", 0, rows, 1, ((), ()), FIRST_PACK),
            plain,
        )
        callers = (("zoe", ()), ("al", ((1, 7),)), ("bob", ()))
        self.assertEqual(state_of(room), (keepers, (("wish", "bob", 0, 1, SET),), callers))
        room.stand(2)
        self.assertEqual(state_of(room)[0], keepers[:2] + ((2, "standing", None) + plain[3:],))

    def test_answers_in_the_order_in_which_they_came(self):
        room = Room(1, (0,))
        room.stand(0)
        for number in range(3):
            for name in ("zoe", "al"):
                room.wish(name, ADD)
                bring_all(room)
        self.assertEqual(state_of(room)[2], (("zoe", ((1, 7), (2, 21), (3, 35))), ("al", ((1, 14), (2, 28), (3, 42)))))

    def test_is_of_tuples(self):
        state = state_of(busy())
        parts = [state] + list(state) + list(state[0]) + list(state[1]) + list(state[2]) + [caller[1] for caller in state[2]]
        for part in parts:
            self.assertIsInstance(part, tuple)
        # So it can be kept as a key.
        self.assertEqual({state: 1}[state_of(busy())], 1)

    def test_the_state_as_it_was_told_stays_when_more_is_done(self):
        room = busy()
        state = state_of(room)
        ahead = whole(state)
        for deed in chance_schedule(3, 200)[2]:
            done_in(room, deed)
        self.assertNotEqual(whole(state_of(room)), ahead)
        self.assertEqual(whole(state), ahead)

    def test_nothing_changes_by_it(self):
        room = busy()
        ahead = whole(room)
        self.assertEqual(state_of(room), state_of(room))
        self.assertEqual(whole(room), ahead)


class Logs(unittest.TestCase):
    def gives(self, history, *entries):
        log = log_of(history)
        self.assertEqual(log, entries)
        self.assertIsInstance(log, tuple)

    def states(self, room, *deeds):
        """The states at first and behind each deed."""
        states = [state_of(room)]
        for deed in deeds:
            done_in(room, deed)
            states.append(state_of(room))
        return states

    def test_where_nothing_is_known(self):
        self.gives([])
        self.gives([state_of(Room(3, THREE))] * 2)
        # The head's open entry, held by it alone.
        room = Room(2, (0, 1))
        history = self.states(room, ("stand", 0), ("bring", 0), ("bring", 0))
        self.assertEqual(room.keeper(0).row[2], (opened(1),))
        self.gives(history)

    def test_known_by_one_keeper_alone(self):
        room = headed()
        history = self.states(room, ("wish", "al", ADD), ("bring", 0), ("beat", 0, 1), ("bring", 0))
        self.assertEqual(room.keeper(1).row[2], (opened(1), WISH))
        self.gives(history, opened(1))
        history += self.states(room, ("bring", 0))
        self.assertEqual([room.keeper(k).agreed for k in range(3)], [2, 1, 0])
        self.gives(history, opened(1), WISH)

    def test_packed_up_since(self):
        room = Room(1, (0,))
        deeds = [("stand", 0), ("wish", "al", ADD), ("bring", 0), ("pack", 0, 1), ("move", 0, (0,)), ("pack", 0, 2), ("stand", 0), ("pack", 0, 3)]
        history = self.states(room, *deeds)
        self.assertEqual((room.keeper(0).row, room.keeper(0).agreed), ((3, 2, ()), 3))
        self.gives(history, opened(1), WISH, opened(2))
        self.gives(history[:-3], opened(1), WISH)

    def test_forgotten_by_waking(self):
        room = headed(1, (0,))
        history = self.states(room, ("wake", 0))
        self.assertEqual(room.keeper(0).agreed, 0)
        self.gives(history, opened(1))
        self.gives(history[1:])

    def test_seats_are_entries_too(self):
        room = headed(4)
        history = self.states(room, ("move", 0, (0, 1, 2, 3)), ("beat", 0, 1), ("beat", 0, 2), ("bring", 0), ("bring", 0), ("bring", 0), ("bring", 0))
        self.gives(history, opened(1), seats_entry(1, *range(4)))

    def test_no_more_of_a_row_than_is_known(self):
        entries = (opened(1), WISH, opened(2), opened(3))
        for agreed in range(5):
            self.gives([state_with(keeper_with(entries, agreed))], *entries[:agreed])

    def test_the_first_state_counts(self):
        for first, later in ((1, 2), (2, 1)):
            history = [state_with(keeper_with((opened(9),), 0)), state_with(keeper_with((), 0), keeper_with((opened(first),), 1)),
                       state_with(keeper_with((opened(later),), 1), keeper_with((), 0))]
            self.gives(history, opened(first))

    def test_in_it_the_first_keeper_by_number_counts(self):
        for first, later in ((1, 2), (2, 1)):
            keepers = [keeper_with((opened(9),), 0), keeper_with((opened(first),), 1), keeper_with((opened(later), opened(7)), 2)]
            self.gives([state_with(*keepers)], opened(first), opened(7))

    def test_one_that_has_packed_it_up_has_it_not_in_its_row(self):
        first = keeper_with((opened(4),), 4, 3, 3)
        other = keeper_with((opened(1), opened(2), opened(3), opened(8), opened(9)), 5)
        self.gives([state_with(first, other)], *[opened(term) for term in (1, 2, 3, 4, 9)])
        self.gives([state_with(other, first)], *[opened(term) for term in (1, 2, 3, 8, 9)])

    def test_the_history_is_not_changed(self):
        history = self.states(headed(), ("pack", 0, 1), ("wish", "al", ADD))
        ahead = whole(history)
        log_of(history)
        self.assertEqual(whole(history), ahead)


if __name__ == "__main__":
    unittest.main()
