"""A room, and a witness that looks at all that comes of what is done there."""

import functools

from keeplog.agreeing import move, pack_up, take_held, take_wish
from keeplog.handing import take_hand, take_pack
from keeplog.keepers import seats_now
from keeplog.rooms import Room
from keeplog.rows import end_of
from keeplog.things import is_letter, is_pack, is_store
from keeplog.voting import stand, take_ask, take_voice

# What is done with a keeper, each as a function that gives the letters that are written.


def wake(keeper):
    keeper.wake()
    return []


def moved(keeper, seats):
    return move(keeper, seats)[1]


def packed(keeper, place):
    pack_up(keeper, place)
    return []


TAKES = {"ask": take_ask, "voice": take_voice, "hand": take_hand, "pack": take_pack, "held": take_held, "wish": take_wish}


@functools.lru_cache(None)
def outcome_of(seats, entries):
    """What doing entries in their order comes to, counted here by dicts: seats, store, and the answers that count."""
    values, numbers, answers = {}, {}, {}
    for term, what in entries:
        if what[0] == "seats":
            seats = what[1]
        if what[0] == "wish" and what[2] > numbers.get(what[1], 0):
            numbers[what[1]] = what[2]
            answers[what[1:3]] = answer_by(values, what[3])
    callers = [(caller, number, answers[caller, number]) for caller, number in sorted(numbers.items())]
    return (seats, (tuple(sorted(values.items())), tuple(callers)), answers)


def answer_by(values, deed):
    ahead = values.get(deed[1], 0)
    if deed[0] == "get":
        return ahead
    values[deed[1]] = deed[2] if deed[0] == "set" else ahead + deed[2]
    return ahead if deed[0] == "set" else values[deed[1]]


class Witness:
    """Remembers heads, voices, agreed entries and answers from the first on, and holds each later state against them."""

    def __init__(self, case, seats):
        self.case = case
        self.seats = seats
        self.heads = {}
        self.voices = {}
        self.terms = {}
        self.log = ()
        self.told = {}
        self.wished = {}

    def sees_head(self, term, number):
        self.case.assertEqual(self.heads.setdefault(term, number), number, "two heads in one term")

    def sees_voice(self, keeper):
        if keeper.voice is not None:
            first = self.voices.setdefault((keeper.number, keeper.term), keeper.voice)
            self.case.assertEqual(first, keeper.voice, "two voices in one term")

    def sees_agreed(self, keeper):
        base, log = keeper.row[0], self.log
        self.case.assertTrue(base <= keeper.agreed <= base + len(keeper.row[2]))
        self.case.assertLessEqual(base, len(log), "packed up, and never known to be agreed")
        own = keeper.row[2][:keeper.agreed - base]
        self.case.assertEqual(own[:len(log) - base], log[base:keeper.agreed], "two entries agreed at one place")
        self.log = log + own[len(log) - base:]

    def sees(self, keeper):
        case, base = self.case, keeper.row[0]
        case.assertGreaterEqual(keeper.term, self.terms.get(keeper.number, 0))
        self.terms[keeper.number] = keeper.term
        self.sees_voice(keeper)
        if keeper.way == "head":
            self.sees_head(keeper.term, keeper.number)
        self.sees_agreed(keeper)
        case.assertEqual(keeper.store, outcome_of(self.seats, self.log[:keeper.agreed])[1])
        last = self.log[base - 1][0] if base else 0
        case.assertEqual(keeper.pack, (base, last) + outcome_of(self.seats, self.log[:base])[:2])
        case.assertEqual(keeper.row[1], last)
        case.assertTrue(is_pack(keeper.pack) and is_store(keeper.store))

    def sees_act(self, keeper, act, *parts):
        """Does it with a keeper alone, and gives the letters that are written."""
        end = end_of(keeper.row)
        letters = act(keeper, *parts)
        self.sees_outcome(keeper, act in (stand, take_voice), end, letters)
        return letters

    def sees_outcome(self, keeper, by_voices, end, letters):
        # One that is out may be plain again by now; its open entry tells that it was head.
        if by_voices and end_of(keeper.row) > end:
            self.sees_head(keeper.term, keeper.number)
        self.sees(keeper)
        for letter in letters:
            self.sees_letter(letter)

    def sees_letter(self, letter):
        self.case.assertTrue(is_letter(letter), letter)
        if letter[0] in ("hand", "pack"):
            self.sees_head(letter[3], letter[1])
        if letter[0] == "told":
            self.sees_told(letter[2], letter[3], letter[4])

    def sees_told(self, caller, number, answer):
        case = self.case
        case.assertEqual(self.told.setdefault((caller, number), answer), answer, "told twice, and not the same")
        case.assertIn(("wish", caller, number, self.wished[caller, number]), [entry[1] for entry in self.log])
        case.assertEqual(outcome_of(self.seats, self.log)[2][caller, number], answer)


class Gathering:
    def __init__(self, case, count, seats):
        self.room = Room(count, seats)
        self.keepers = [self.room.keeper(k) for k in range(count)]
        self.witness = Witness(case, seats)

    @property
    def road(self):
        return self.room.road

    @property
    def callers(self):
        return self.room.named

    def caller(self, name):
        return self.callers[name]

    def acts(self, k, by_voices, left, act, *parts):
        """Does it in the room; left is how many of the letters on the road stay there."""
        keeper = self.keepers[k]
        end = end_of(keeper.row)
        outcome = act(*parts)
        self.witness.sees_outcome(keeper, by_voices, end, self.room.letters()[left:])
        return outcome

    def acts_by_itself(self, k, act, *parts):
        return self.acts(k, act == self.room.stand, len(self.room.letters()), act, *parts)

    def takes(self, act, at, gone):
        letter = self.room.letters()[at]
        if letter[0] in TAKES:
            self.acts(letter[2], letter[0] == "voice", len(self.room.letters()) - gone, act, at)
        else:
            act(at)

    def stand(self, k):
        self.acts_by_itself(k, self.room.stand, k)

    def beat(self, k, other):
        self.acts_by_itself(k, self.room.beat, k, other)

    def wake(self, k):
        self.acts_by_itself(k, self.room.wake, k)

    def move(self, k, seats):
        return self.acts_by_itself(k, self.room.move, k, seats)

    def pack(self, k, place):
        return self.acts_by_itself(k, self.room.pack_up, k, place)

    def bring(self, at):
        self.takes(self.room.bring, at, 1)

    def double(self, at):
        self.takes(self.room.double, at, 0)

    def lose(self, at):
        self.room.lose(at)

    def lose_all(self):
        while self.room.letters():
            self.lose(0)

    def bring_all(self):
        while self.room.letters():
            self.bring(0)

    def round(self, k, brought_behind_each=False):
        """It beats to each other one of its seats, and all letters are brought behind that."""
        for other in self.seats_of(k):
            if other != k:
                self.beat(k, other)
                if brought_behind_each:
                    self.bring_all()
        self.bring_all()

    def bring_to(self, *keepers):
        """Brings what goes to these, and what comes of it, first things first; the rest stays on the road."""
        at = 0
        while at < len(self.room.letters()):
            if self.room.letters()[at][2] in keepers:
                self.bring(at)
                at = 0
            else:
                at += 1

    def wish(self, name, deed):
        left = len(self.room.letters())
        self.room.wish(name, deed)
        for letter in self.room.letters()[left:]:
            self.witness.wished[name, letter[3]] = deed

    def again(self, name):
        self.room.again(name)

    def turn(self, name, k):
        self.room.turn(name, k)

    def heads(self):
        return [keeper.number for keeper in self.keepers if keeper.way == "head"]

    def seats_of(self, k):
        return seats_now(self.keepers[k])
