"""A room: its keepers, the road between them, the callers that are named in it, and all that is done there."""

from keeplog.agreeing import move, pack_up, take_held, take_wish
from keeplog.callers import Caller
from keeplog.errors import NoKeeper, NoRoom
from keeplog.handing import beat, take_hand, take_pack
from keeplog.keepers import Keeper
from keeplog.roads import Road
from keeplog.voting import stand, take_ask, take_voice


def are_seats_below(seats, count):
    # To Python a truth is as good as 0 or 1.
    if not isinstance(seats, tuple) or any([isinstance(seat, bool) for seat in seats]):
        return False
    return len(seats) >= 1 and seats == tuple([number for number in range(count) if number in seats])


def taken_by(keeper, letter):
    word = letter[0]
    if word == "ask":
        return take_ask(keeper, letter)
    if word == "voice":
        return take_voice(keeper, letter)
    if word == "hand":
        return take_hand(keeper, letter)
    if word == "pack":
        return take_pack(keeper, letter)
    if word == "held":
        return take_held(keeper, letter)
    return take_wish(keeper, letter)


class Room:
    def __init__(self, count, seats):
        if count < 1 or count > 9:
            raise NoRoom("a room has 1 to 9 keepers")
        if not are_seats_below(seats, count):
            raise NoRoom("these are no seats of this room")
        self.keepers = [Keeper(number, seats) for number in range(count)]
        self.road = Road()
        # A dict keeps the order in which they came.
        self.named = {}

    def size(self):
        return len(self.keepers)

    def keeper(self, k):
        # A number below nought would count from the end.
        if k < 0 or k >= len(self.keepers):
            raise NoKeeper("the room has no keeper of this number")
        return self.keepers[k]

    def letters(self):
        return self.road.waiting()

    def callers(self):
        return list(self.named)

    def answers(self, caller):
        # One that is only asked about does not come by that.
        if caller not in self.named:
            return []
        return list(self.named[caller].told)

    def stand(self, k):
        self.road.put(stand(self.keeper(k)))

    def beat(self, k, other):
        one = self.keeper(k)
        to = self.keeper(other).number
        if to == k:
            raise NoKeeper("a keeper does not beat to itself")
        self.road.put(beat(one, to))

    def wake(self, k):
        self.keeper(k).wake()

    def move(self, k, seats):
        one = self.keeper(k)
        if not are_seats_below(seats, self.size()):
            raise NoKeeper("the room does not have these seats")
        pair = move(one, seats)
        self.road.put(pair[1])
        return pair[0]

    def pack_up(self, k, place):
        return pack_up(self.keeper(k), place)

    def bring(self, at):
        self.deliver(self.road.take(at))

    def double(self, at):
        self.deliver(self.road.look(at))

    def lose(self, at):
        self.road.take(at)

    def deliver(self, letter):
        to = letter[2]
        if letter[0] == "told":
            self.named[to].take_told(letter)
        elif letter[0] == "away":
            self.named[to].take_away(letter)
        else:
            self.road.put(taken_by(self.keepers[to], letter))

    def called(self, name):
        if name not in self.named:
            self.named[name] = Caller(name, 0)
        return self.named[name]

    def wish(self, caller, deed):
        self.road.put(self.called(caller).wish(deed))

    def again(self, caller):
        self.road.put(self.called(caller).again())

    def turn(self, caller, k):
        # Asked for first, so that by a number that is refused no caller comes.
        asked = self.keeper(k).number
        one = self.called(caller)
        one.asks = asked
