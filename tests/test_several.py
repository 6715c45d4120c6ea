"""Several keepers between which letters go: what holds whichever letters are brought, lost or doubled, in whatever order."""

import copy
import random
import unittest

from keeplog.handing import beat
from keeplog.keepers import Keeper
from keeplog.rows import as_new, behind, end_of, newness, term_at
from keeplog.stores import replayed
from keeplog.things import is_letter, is_pack, is_store
from keeplog.voting import stand
from tests.gathering import TAKES, Gathering, Witness, moved, packed, wake
from tests.keeping import KEPT, LOST, THREE, add_entry, opened, seats_entry, wish_entry

FIVE = (0, 1, 2, 3, 4)
ADD = ("add", "x", 1)
SET = ("set", "x", 50)
GET = ("get", "x")
DEEDS = [ADD, SET, GET, ("add", "y", -3), ("get", "y")]
NAMES = ["al", "bob", "zoe"]


class Scenarios(unittest.TestCase):
    """Walks that are known to go wrong where one of the promises is left out."""

    def begun(self, count, seats, head=0):
        """One that is head in term 1, whose open entry all its seats have."""
        some = Gathering(self, count, seats)
        some.stand(head)
        some.bring_all()
        self.assertEqual(some.heads(), [head])
        return some

    def wished(self, some, name, deed, k):
        some.turn(name, k)
        some.wish(name, deed)

    def test_a_calm_road(self):
        some = self.begun(3, THREE)
        self.wished(some, "al", ADD, 0)
        some.bring_all()
        self.wished(some, "bob", SET, 1)
        some.bring_all()
        self.assertEqual((some.caller("al").told, some.caller("bob").asks), ([], 0))
        some.again("bob")
        some.bring_all()
        some.round(0)
        self.assertEqual((some.caller("al").told, some.caller("bob").told), ([(1, 1)], [(1, 1)]))
        some.round(0)
        log = (opened(1), add_entry(1, "al", 1), wish_entry(1, "bob", 1, SET))
        for keeper in some.keepers:
            self.assertEqual((keeper.row, keeper.agreed, keeper.store[0]), ((0, 0, log), 3, (("x", 50),)))
        self.assertEqual(some.witness.log, log)

    def test_two_stand_in_one_term(self):
        some = Gathering(self, 3, THREE)
        some.stand(0)
        some.stand(1)
        some.bring_to(2)
        some.bring_all()
        self.assertEqual(some.heads(), [0])
        self.assertEqual((some.keepers[1].way, some.keepers[1].head), ("plain", 0))

    def test_voices_that_are_split(self):
        some = Gathering(self, 4, (0, 1, 2, 3))
        some.stand(0)
        some.stand(1)
        some.bring_to(2)
        # The ask of 1 comes to 3 ahead of that of 0.
        at = some.road.waiting().index(("ask", 1, 3, 1, 0, 0))
        some.bring(at)
        some.bring_all()
        self.assertEqual((some.heads(), [keeper.voice for keeper in some.keepers]), ([], [0, 1, 0, 1]))
        some.stand(1)
        some.bring_all()
        self.assertEqual(some.heads(), [1])

    def test_a_voice_given_ahead_of_waking_is_not_given_again(self):
        some = Gathering(self, 3, THREE)
        some.stand(0)
        some.bring_to(2)
        some.wake(2)
        some.stand(1)
        some.bring_to(2)
        some.bring_all()
        self.assertEqual(some.heads(), [0])

    def test_voices_of_an_earlier_standing_count_for_nothing(self):
        some = Gathering(self, 3, THREE)
        some.stand(0)
        some.bring_to(1, 2)
        some.stand(0)
        while [letter for letter in some.road.waiting() if letter[0] == "voice"]:
            some.bring([letter[0] for letter in some.road.waiting()].index("voice"))
        self.assertEqual((some.heads(), some.keepers[0].voices), ([], (0,)))

    def test_entries_of_earlier_terms_are_not_agreed_by_how_many_hold_them(self):
        some = self.begun(5, FIVE)
        for name in NAMES + ["cy", "dan"]:
            self.wished(some, name, ADD, 0)
        some.bring_to(0)
        # Five wishes that 0 alone has; then 4 is head in term 2, and none has what it puts.
        some.stand(4)
        some.bring_to(2, 3)
        some.bring_to(4)
        self.assertEqual(some.keepers[4].way, "head")
        some.lose_all()
        some.stand(0)
        some.stand(0)
        some.bring_to(1, 2)
        some.bring_to(0)
        self.assertEqual((some.keepers[0].way, some.keepers[0].term), ("head", 3))
        some.lose_all()
        # Three of five come to hold the wishes of term 1, but not yet the entry of term 3.
        for k in (1, 2):
            for again in range(2):
                some.beat(0, k)
                some.bring_to(k)
                some.bring_to(0)
            self.assertEqual(some.keepers[k].row[2], some.keepers[0].row[2][:6])
        self.assertEqual((some.keepers[0].held[:3], some.keepers[0].agreed), ((0, 6, 6), 1))
        # So 4 may be head again, and what it put goes ahead of them.
        some.stand(4)
        some.stand(4)
        some.bring_to(1, 2, 3)
        some.bring_to(4)
        self.assertEqual(some.keepers[4].way, "head")
        for again in range(4):
            some.round(4)
        self.assertEqual(some.witness.log, (opened(1), opened(2), opened(4)))
        self.assertEqual(some.witness.told, {})

    def test_a_held_of_an_earlier_term_counts_for_nothing(self):
        some = self.begun(5, FIVE)
        for name in ("al", "bob"):
            self.wished(some, name, ADD, 0)
        some.bring_to(0)
        some.beat(0, 1)
        some.bring_to(1)
        late = some.road.take(0)
        self.assertEqual(late, ("held", 1, 0, 1, True, 3))
        # 4 puts another entry in the place of the wishes with 0, but not with 1; then 0 is head again.
        some.stand(4)
        some.bring_to(2, 3)
        some.bring_to(4)
        some.bring_to(0)
        some.lose_all()
        some.stand(0)
        some.bring_to(2, 3)
        some.bring_to(0)
        self.assertEqual((some.keepers[0].way, some.keepers[0].row[2]), ("head", (opened(1), opened(2), opened(3))))
        some.lose_all()
        some.road.put([late])
        some.bring_to(0)
        for again in range(3):
            some.beat(0, 2)
            some.bring_to(0, 2)
        self.assertEqual((some.keepers[0].held[:3], some.keepers[0].agreed), ((0, 0, 3), 1))
        # So 4 may be head with the voices of 1 and 3, and put its own there.
        some.lose_all()
        for again in range(2):
            some.stand(4)
        some.bring_to(1, 3)
        some.bring_to(4)
        for again in range(4):
            some.round(4)
        self.assertEqual(some.witness.log, (opened(1), opened(2), opened(4)))

    def test_seats_are_not_moved_ahead_of_an_entry_of_its_own_term(self):
        some = self.begun(5, (0, 1, 2, 3))
        self.assertTrue(some.move(0, FIVE))
        some.beat(0, 4)
        some.bring_to(4)
        some.lose_all()
        some.stand(1)
        some.bring_to(2, 3)
        some.bring_to(1)
        self.assertEqual(some.keepers[1].way, "head")
        # Were it let to leave 0 out at once, 1 and 2 would agree on that, and 0, 3 and 4 on what 0 has.
        self.assertFalse(some.move(1, (1, 2, 3)))
        some.bring_to(1, 2, 3)
        self.assertEqual(some.keepers[1].agreed, 2)
        self.assertTrue(some.move(1, (1, 2, 3)))
        some.beat(1, 2)
        some.bring_to(1, 2)
        self.assertEqual((some.keepers[1].agreed, end_of(some.keepers[3].row)), (3, 2))
        some.lose_all()
        for again in range(2):
            some.stand(0)
            some.bring_to(3, 4)
            some.bring_to(0)
        self.assertEqual((some.keepers[0].way, some.keepers[0].voices), ("standing", (0, 4)))

    def test_a_head_that_moves_itself_out(self):
        some = self.begun(3, THREE)
        self.wished(some, "al", ADD, 0)
        some.bring_to(0)
        self.assertTrue(some.move(0, (1, 2)))
        some.beat(0, 1)
        some.bring_to(0, 1)
        self.assertEqual((some.keepers[0].way, some.keepers[0].agreed), ("head", 1))
        some.beat(0, 2)
        some.bring_to(0, 2)
        self.assertEqual((some.keepers[0].way, some.keepers[0].agreed), ("plain", 3))
        some.bring_all()
        self.assertEqual(some.caller("al").told, [(1, 1)])
        some.stand(2)
        some.bring_all()
        self.assertEqual((some.heads(), some.seats_of(2)), ([2], (1, 2)))
        self.assertEqual(some.witness.log, (opened(1), add_entry(1, "al", 1), seats_entry(1, 1, 2), opened(2)))

    def test_told_again_by_another_head_it_is_told_the_same(self):
        some = self.begun(3, THREE)
        self.wished(some, "al", ADD, 0)
        some.bring_to(0)
        some.beat(0, 1)
        some.bring_to(0, 1)
        told = [letter for letter in some.road.waiting() if letter[0] == "told"]
        self.assertEqual(told, [("told", 0, "al", 1, 1)])
        some.lose_all()
        self.wished(some, "bob", SET, 0)
        some.bring_all()
        some.round(0)
        some.stand(1)
        some.bring_all()
        self.assertEqual((some.heads(), some.keepers[1].store[0]), ([1], (("x", 50),)))
        some.turn("al", 1)
        for again in range(2):
            some.again("al")
        some.bring_all()
        self.assertEqual(some.caller("al").told, [(1, 1)])
        self.assertEqual(some.witness.told["al", 1], 1)

    def test_a_wish_that_comes_into_two_rows_is_done_once(self):
        some = self.begun(3, THREE)
        self.wished(some, "al", ADD, 0)
        some.double(0)
        some.bring_to(0)
        some.lose_all()
        self.assertEqual(len(some.keepers[0].row[2]), 3)
        some.beat(0, 1)
        some.bring_to(1)
        some.lose_all()
        some.stand(1)
        some.bring_all()
        some.turn("al", 1)
        some.again("al")
        some.bring_all()
        some.round(1)
        self.assertEqual(some.caller("al").told, [(1, 1)])
        self.assertEqual(some.keepers[1].store, ((("x", 1),), (("al", 1, 1),)))

    def test_a_wish_that_goes_with_its_row_is_not_told(self):
        some = self.begun(3, THREE)
        self.wished(some, "al", SET, 0)
        some.bring_to(0)
        some.stand(1)
        some.bring_to(1, 2)
        self.assertEqual(some.keepers[1].way, "head")
        some.bring_all()
        self.assertEqual((some.caller("al").told, some.keepers[0].row), ([], (0, 0, (opened(1), opened(2)))))
        some.turn("al", 1)
        some.again("al")
        some.bring_all()
        some.round(1)
        self.assertEqual(some.caller("al").told, [(1, 0)])

    def test_letters_of_a_head_that_is_one_no_more(self):
        some = self.begun(3, THREE)
        self.wished(some, "al", SET, 0)
        some.bring_to(0)
        for k in (1, 2):
            some.beat(0, k)
        late = [letter for letter in some.road.waiting() if letter[0] == "hand"]
        some.lose_all()
        some.stand(1)
        some.bring_to(1, 2)
        some.beat(1, 2)
        some.bring_to(1, 2)
        rows = [keeper.row for keeper in some.keepers]
        some.road.put(late * 2)
        some.bring_to(1, 2)
        self.assertEqual([keeper.row for keeper in some.keepers], rows)
        some.bring_all()
        self.assertEqual((some.heads(), some.keepers[0].term), ([1], 2))

    def test_a_pack_handed_on(self):
        some = self.begun(4, THREE)
        for number in range(7):
            self.wished(some, "al", ADD, 0)
            some.bring_to(0)
            some.beat(0, 1)
            some.bring_to(0, 1)
            some.bring_all()
        self.assertTrue(some.move(0, (0, 1, 2, 3)))
        self.assertTrue(some.pack(0, 7))
        for again in range(6):
            some.round(0)
        # Two were far behind, and have the pack; the other one has the entries.
        self.assertEqual([keeper.row[0] for keeper in some.keepers], [7, 0, 7, 7])
        self.assertEqual([keeper.agreed for keeper in some.keepers], [9, 9, 9, 9])
        self.assertEqual(len({keeper.store for keeper in some.keepers}), 1)
        some.wake(0)
        some.stand(3)
        some.bring_all()
        self.assertEqual(some.heads(), [3])
        some.road.put([("wish", "al", 3, 7, ADD)])
        some.bring(0)
        self.assertEqual(some.road.waiting(), [("told", 3, "al", 7, 7)])

    def test_a_pack_brought_late(self):
        some = self.begun(3, THREE)
        some.wish("al", SET)
        some.bring_all()
        some.beat(0, 1)
        some.bring_all()
        some.pack(0, 1)
        some.keepers[0].nexts = (1,) * 9
        some.beat(0, 1)
        some.wish("al", ADD)
        some.bring_to(0)
        some.keepers[0].nexts = (3,) * 9
        some.beat(0, 1)
        late = some.road.take(0)
        self.assertEqual(late[0], "pack")
        some.bring_all()
        row = some.keepers[1].row
        some.road.put([late])
        some.bring_all()
        self.assertEqual((some.keepers[1].row, some.keepers[1].agreed), (row, 2))


class Walks(unittest.TestCase):
    """All walks of a small gathering. Letters that were written once may be brought at any time, as often as one likes."""

    NAMES = KEPT + LOST

    def frozen(self, keeper):
        return tuple(getattr(keeper, name) for name in self.NAMES)

    def thawed(self, values):
        keeper = Keeper.__new__(Keeper)
        for name, value in zip(self.NAMES, values):
            setattr(keeper, name, value)
        return keeper

    def acts(self, keeper, sent, bounds):
        """What may be done with a keeper: an act and its parts."""
        if keeper.number in bounds["standing"] and keeper.term < bounds["term"]:
            yield (stand,)
        if keeper.number in bounds.get("waking", ()):
            yield (wake,)
        if keeper.way == "head":
            for other in bounds.get("beaten", ()):
                if other != keeper.number:
                    yield (beat, other)
            for seats in bounds.get("moves", ()):
                if end_of(keeper.row) < bounds["end"]:
                    yield (moved, seats)
        if bounds.get("packing"):
            yield (packed, keeper.agreed)
        for letter in sent:
            if letter[2] == keeper.number and letter[0] in bounds["letters"]:
                if letter[0] != "wish" or end_of(keeper.row) < bounds["end"]:
                    yield (TAKES[letter[0]], letter)

    def behind(self, state, k, act):
        """The state behind an act; the witness goes along with it."""
        keepers, sent, heads, log, told = state
        keeper = self.thawed(keepers[k])
        witness = Witness(self, self.seats)
        witness.heads, witness.log, witness.told, witness.wished = dict(heads), log, dict(told), {("al", 1): ADD, ("bob", 1): SET}
        letters = witness.sees_act(keeper, *act)
        known = (frozenset(witness.heads.items()), witness.log, frozenset(witness.told.items()))
        return (keepers[:k] + (self.frozen(keeper),) + keepers[k + 1:], sent | set(letters)) + known

    def walked(self, count, seats, wishes=(), **bounds):
        self.seats = seats
        first = (tuple(self.frozen(Keeper(k, seats)) for k in range(count)), frozenset(wishes), frozenset(), (), frozenset())
        seen, todo = {first}, [first]
        while todo:
            state = todo.pop()
            for k in range(count):
                for act in self.acts(self.thawed(state[0][k]), state[1], bounds):
                    later = self.behind(state, k, act)
                    if later not in seen:
                        seen.add(later)
                        todo.append(later)
        return seen

    VOTING = ("ask", "voice")
    ALL = ("ask", "voice", "hand", "pack", "held", "wish")

    def logs(self, states):
        return {state[3] for state in states}

    def test_three_that_stand_in_one_term_and_wake(self):
        states = self.walked(3, THREE, standing=THREE, term=1, letters=self.VOTING, waking=THREE)
        self.assertEqual({state[2] for state in states}, {frozenset()} | {frozenset([(1, k)]) for k in THREE})

    def test_two_that_stand_in_two_terms(self):
        states = self.walked(3, THREE, standing=(0, 1), term=2, letters=self.VOTING)
        self.assertTrue(any(len(state[2]) == 2 for state in states))

    def test_one_that_has_no_seat_stands_too(self):
        states = self.walked(3, (0, 1), standing=(0, 2), term=2, letters=self.VOTING)
        self.assertTrue(any((1, 2) in state[2] and (2, 0) in state[2] for state in states))

    def test_two_that_hand_on_to_one_another(self):
        states = self.walked(2, (0, 1), standing=(0, 1), term=2, letters=self.ALL, beaten=(0, 1))
        self.assertIn((opened(1), opened(2)), self.logs(states))

    def test_a_wish_and_packing_up(self):
        wishes = [("wish", "al", 0, 1, ADD)]
        states = self.walked(2, (0, 1), wishes, standing=(0,), term=1, letters=self.ALL, beaten=(1,), packing=True, end=3)
        self.assertIn((opened(1), add_entry(1, "al", 1), add_entry(1, "al", 1)), self.logs(states))

    def test_seats_that_are_moved(self):
        states = self.walked(2, (0,), standing=(0, 1), term=2, letters=self.ALL, beaten=(0, 1), moves=((0, 1), (1,)), end=2)
        self.assertIn((opened(1), seats_entry(1, 0, 1)), self.logs(states))


class Schedules(unittest.TestCase):
    """Schedules of some hundred deeds, the same ones at each run."""

    def begun(self, chance):
        count = chance.randint(1, 6)
        seats = tuple(sorted(chance.sample(range(count), chance.randint(1, count))))
        weights = {
            "stand": chance.choice([1, 2, 5]), "beat": chance.choice([3, 10]), "bring": chance.choice([20, 40, 80]),
            "double": chance.choice([0, 3, 10]), "lose": chance.choice([0, 2, 10]), "wish": 4, "again": 3, "turn": 1,
            "move": chance.choice([0, 2, 6]), "pack": chance.choice([0, 2, 6]), "wake": chance.choice([0, 1, 3]),
        }
        return Gathering(self, count, seats), weights

    def one_of(self, some, chance, kind):
        """A keeper; for what only a head does, mostly a head."""
        heads = some.heads()
        if heads and kind in ("beat", "move", "turn") and chance.random() < 0.8:
            return chance.choice(heads)
        return chance.randrange(len(some.keepers))

    def done_with_a_letter(self, some, chance, kind):
        many = len(some.road.waiting())
        if many:
            getattr(some, kind)(chance.choice([0, many - 1, chance.randrange(many)]))
        if many > 60:
            some.lose(chance.randrange(60))

    def done_with_a_caller(self, some, chance, kind):
        name = chance.choice(NAMES)
        if kind == "wish":
            some.wish(name, chance.choice(DEEDS))
        elif kind == "again":
            some.again(name)
        else:
            some.turn(name, self.one_of(some, chance, kind))

    def done_with_a_keeper(self, some, chance, kind):
        k = self.one_of(some, chance, kind)
        other = chance.randrange(len(some.keepers))
        if kind in ("stand", "wake"):
            getattr(some, kind)(k)
        elif kind == "beat" and other != k:
            some.beat(k, other)
        elif kind == "move" and some.seats_of(k) != (other,):
            some.move(k, tuple(sorted(set(some.seats_of(k)) ^ {other})))
        elif kind == "pack":
            some.pack(k, some.keepers[k].agreed - chance.randrange(3))

    def played(self, seed, deeds):
        chance = random.Random(seed)
        some, weights = self.begun(chance)
        for kind in chance.choices(list(weights), list(weights.values()), k=deeds):
            if kind in ("bring", "double", "lose"):
                self.done_with_a_letter(some, chance, kind)
            elif kind in ("wish", "again", "turn"):
                self.done_with_a_caller(some, chance, kind)
            else:
                self.done_with_a_keeper(some, chance, kind)
        return some

    def answers_stand(self, some):
        """What callers took is what they were told, each number once and rising."""
        for name, caller in some.callers.items():
            self.assertEqual([number for number, answer in caller.told], list(range(1, len(caller.told) + 1)))
            for number, answer in caller.told:
                self.assertEqual(some.witness.told[name, number], answer)

    def comes_to_be_head(self, some, k):
        """On a calm road, by standing once, or twice where it is not head yet."""
        some.stand(k)
        some.bring_all()
        if some.keepers[k].way != "head":
            some.stand(k)
            some.bring_all()
        self.assertEqual(some.keepers[k].way, "head")

    def have_one_row(self, keeper, other):
        """Of what one of them has packed up nothing is to be compared but the term."""
        base = max(keeper.row[0], other.row[0])
        self.assertEqual(newness(other.row), newness(keeper.row))
        self.assertEqual(term_at(other.row, base), term_at(keeper.row, base))
        self.assertEqual(behind(other.row, base, end_of(other.row)), behind(keeper.row, base, end_of(keeper.row)))

    def comes_to_an_end(self, some, k, brought_behind_each):
        """By beating so often all its seats come to have its row, and it is agreed."""
        self.comes_to_be_head(some, k)
        keeper = some.keepers[k]
        for again in range(2 * end_of(keeper.row) + 4):
            some.round(k, brought_behind_each)
        self.assertEqual((keeper.way, keeper.agreed), ("head", end_of(keeper.row)))
        for other in some.seats_of(k):
            self.have_one_row(keeper, some.keepers[other])

    def newest(self, some):
        """Those of their seats whose row is as new as that of each of these."""
        for keeper in some.keepers:
            last, end = newness(keeper.row)
            seats = some.seats_of(keeper.number)
            if keeper.number in seats and all(as_new(last, end, some.keepers[other].row) for other in seats):
                yield keeper.number

    def test_schedules(self):
        logs = told = packs = seats = 0
        for seed in range(600):
            with self.subTest(seed):
                some = self.played(seed, 350)
                self.answers_stand(some)
                logs += len(some.witness.log)
                told += len(some.witness.told)
                packs += sum(keeper.row[0] > 0 for keeper in some.keepers)
                seats += sum(what[0] == "seats" for term, what in some.witness.log)
        # So that the schedules are of some use.
        self.assertGreater(min(logs, told, packs, seats), 50)

    def test_a_calm_road_behind_schedules(self):
        for seed in range(1000, 1120):
            with self.subTest(seed):
                some = self.played(seed, 150)
                some.bring_all()
                for k in list(self.newest(some)):
                    twin = copy.deepcopy(some, {id(self): self})
                    self.comes_to_an_end(twin, k, brought_behind_each=bool(seed % 2))


class LettersThatNoKeeperWrote(unittest.TestCase):
    """One keeper takes whatever comes, as long as no entry that it knows to be agreed is taken away."""

    def entries(self, chance, many):
        some = [opened, lambda term: add_entry(term, chance.choice(NAMES), chance.randint(1, 4)),
                lambda term: seats_entry(term, *sorted(chance.sample(range(4), chance.randint(1, 4))))]
        return tuple(chance.choice(some)(chance.randint(1, 4)) for place in range(many))

    def letter(self, chance, number):
        one = chance.choice([k for k in range(4) if k != number])
        term, place = chance.randint(1, 5), chance.randint(0, 6)
        last = chance.randint(1, 4) if place else 0
        store = ((("x", chance.randint(-2, 2)),), (("al", chance.randint(1, 3), 1),))
        return chance.choice([
            ("ask", one, number, term, place, last),
            ("voice", one, number, term, chance.random() < 0.8),
            ("hand", one, number, term, place, last, self.entries(chance, chance.randint(0, 5)), chance.randint(0, 9)),
            ("pack", one, number, term, (place + 1, last or 1, (0, 1, 3), store)),
            ("held", one, number, term, chance.random() < 0.7, place),
            ("wish", chance.choice(NAMES), number, chance.randint(1, 4), chance.choice(DEEDS)),
        ])

    def done(self, keeper, chance):
        kind = chance.randrange(20)
        if kind == 0:
            return stand(keeper)
        if kind == 1:
            return wake(keeper)
        if kind == 2:
            return packed(keeper, chance.randint(0, 6))
        other = chance.choice([k for k in range(4) if k != keeper.number])
        if kind < 5 and keeper.nexts[other] <= end_of(keeper.row) + 1:
            return beat(keeper, other)
        letter = self.letter(chance, keeper.number)
        self.assertTrue(is_letter(letter), letter)
        return TAKES[letter[0]](keeper, letter)

    def agreed_entries(self, keeper, base):
        return keeper.row[2][max(0, base - keeper.row[0]):keeper.agreed - keeper.row[0]]

    def keeps_what_is_agreed(self, ahead, keeper):
        base = max(ahead.row[0], keeper.row[0])
        own = self.agreed_entries(ahead, base)
        return keeper.row[2][base - keeper.row[0]:][:len(own)] == own

    def is_whole(self, ahead, keeper, letters):
        self.assertEqual(keeper.number, ahead.number)
        self.assertGreaterEqual(keeper.term, ahead.term)
        self.assertTrue(ahead.voice in (None, keeper.voice) or keeper.term > ahead.term)
        self.assertEqual(keeper.row[:2], keeper.pack[:2])
        self.assertTrue(keeper.row[0] <= keeper.agreed <= end_of(keeper.row))
        self.assertTrue(is_pack(keeper.pack) and is_store(keeper.store))
        self.assertEqual(keeper.voices, tuple(sorted(set(keeper.voices))))
        self.assertEqual(keeper.store, replayed(keeper.pack[3], self.agreed_entries(keeper, keeper.row[0])))
        self.assertTrue(all(is_letter(letter) for letter in letters), letters)
        if keeper.way == "head":
            self.assertEqual((keeper.head, keeper.voice), (keeper.number, keeper.number))
        else:
            self.assertEqual(keeper.waits, ())

    def test_one_keeper_takes_them(self):
        ways, taken = set(), 0
        for seed in range(200):
            chance = random.Random(seed)
            keeper = Keeper(chance.randrange(4), chance.choice([(0, 1, 2), (0, 1, 2, 3), (2,), (1, 3)]))
            for step in range(80):
                ahead = copy.copy(keeper)
                letters = self.done(keeper, chance)
                if self.keeps_what_is_agreed(ahead, keeper):
                    self.is_whole(ahead, keeper, letters)
                    ways.add((ahead.way, keeper.way))
                    taken += 1
                else:
                    keeper = ahead
        self.assertEqual(len(ways), 9)
        self.assertGreater(taken, 10000)


if __name__ == "__main__":
    unittest.main()
