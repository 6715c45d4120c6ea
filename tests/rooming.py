"""Rooms in which something was done, what are no seats, and all that a room holds, to be compared as a whole."""

from keeplog.rooms import Room
from tests.keeping import THREE
from tests.samples import HUGE

ADD = ("add", "x", 7)
SET = ("set", "x", 5)
GET = ("get", "x")
NO_SEATS = [
    (), [], [0], [0, 1], (1, 0), (0, 2, 1), (0, 0), (0, 1, 1), (False,), (True,), (0, True), (False, 1), ("0",), ("0", "1"),
    ((0,),), ((0, 1),), ([0],), (None,), (0, None), (-1,), (-1, 0), (HUGE,), (0, HUGE), (9,), (0, 9), 0, None, "0", True, "",
]


def whole(thing):
    """All that a thing holds, at whatever depth, to be compared with what it holds later."""
    if isinstance(thing, (list, tuple)):
        return [whole(part) for part in thing]
    if isinstance(thing, dict):
        return [(name, whole(part)) for name, part in thing.items()]
    if hasattr(thing, "__dict__"):
        return whole(vars(thing))
    return thing


def bring_all(room):
    while room.letters():
        room.bring(0)


def headed(count=3, seats=THREE, head=0):
    """A room with a head, whose open entry all its seats have; nothing is on the road."""
    room = Room(count, seats)
    room.stand(head)
    bring_all(room)
    assert room.keeper(head).way == "head"
    return room


def busy():
    """A room with a head, letters of several kinds on the road, and a caller that waits and one that was told."""
    room = headed()
    room.wish("al", ADD)
    room.bring(0)
    room.beat(0, 1)
    bring_all(room)
    room.wish("bob", SET)
    room.double(0)
    room.beat(0, 2)
    room.turn("bob", 2)
    room.again("bob")
    return room
