"""Schedules with their writings, and schedules made by chance, the same ones for the same seed."""

import random

from keeplog.histories import done_in
from keeplog.keepers import seats_now
from keeplog.rooms import Room
from tests.samples import NINE, SIXTY, some_seats

EACH_DEED = [
    (("stand", 0), "stand 0"),
    (("stand", 8), "stand 8"),
    (("beat", 0, 1), "beat 0 1"),
    (("beat", 8, 0), "beat 8 0"),
    (("beat", 3, 3), "beat 3 3"),
    (("bring", 0), "bring 0"),
    (("bring", 10), "bring 10"),
    (("bring", 999999), "bring 999999"),
    (("double", 0), "double 0"),
    (("double", 999999), "double 999999"),
    (("lose", 0), "lose 0"),
    (("lose", 999999), "lose 999999"),
    (("wish", "al", ("set", "x", -5)), "wish al set x -5"),
    (("wish", "abcdefgh", ("set", "abcdefgh", 0)), "wish abcdefgh set abcdefgh 0"),
    (("wish", "a", ("add", "b", 120)), "wish a add b 120"),
    (("wish", "wish", ("get", "get")), "wish wish get get"),
    (("wish", "al", ("set", "x", SIXTY)), "wish al set x " + "9" * 60),
    (("wish", "al", ("add", "x", -SIXTY)), "wish al add x -" + "9" * 60),
    (("wish", "al", ("add", "x", 10 ** 59)), "wish al add x 1" + "0" * 59),
    (("again", "al"), "again al"),
    (("again", "room"), "again room"),
    (("turn", "al", 0), "turn al 0"),
    (("turn", "zzzzzzzz", 8), "turn zzzzzzzz 8"),
    (("move", 0, (0,)), "move 0 0"),
    (("move", 8, (1, 2, 8)), "move 8 1 2 8"),
    (("move", 3, NINE), "move 3 0 1 2 3 4 5 6 7 8"),
    (("pack", 0, 0), "pack 0 0"),
    (("pack", 8, 999999), "pack 8 999999"),
    (("wake", 0), "wake 0"),
    (("wake", 8), "wake 8"),
]

ROOMS = [((count, seats), " ".join(["room", str(count)] + [str(seat) for seat in seats]))
         for count, seats in [(1, (0,)), (2, (0, 1)), (3, (2,)), (4, (1, 3)), (9, (8,)), (9, NINE)]]

ALL_DEEDS = tuple(deed for deed, row in EACH_DEED)
ALL_ROWS = "".join(row + "\n" for deed, row in EACH_DEED)


def with_each_deed():
    return [((3, (0, 1, 2), (deed,)), f"room 3 0 1 2\n{row}\n") for deed, row in EACH_DEED]


def with_each_room():
    return [(room + ((),), row + "\n") for room, row in ROOMS]


SCHEDULES = with_each_room() + with_each_deed() + [(room + (ALL_DEEDS,), f"{row}\n{ALL_ROWS}") for room, row in ROOMS]

NAMES = ("al", "bob", "zoe")
WISHES = (("add", "x", 1), ("set", "x", 50), ("get", "x"), ("add", "y", -3), ("get", "y"))


def chance_keeper(chance, room, word):
    """A keeper; for what only a head does, mostly a head; now and then one that the room has not."""
    heads = [k for k in range(room.size()) if room.keeper(k).way == "head"]
    if heads and word in ("beat", "move", "turn", "pack") and chance.random() < 0.8:
        return chance.choice(heads)
    return chance.randrange(9 if chance.random() < 0.05 else room.size())


def chance_seats(chance, room, k):
    """Mostly seats that are one off those in force, and now and then others, also such as the room has not."""
    seats = seats_now(room.keeper(k)) if k < room.size() else ()
    near = tuple(sorted(set(seats) ^ {chance.randrange(room.size())}))
    return near if near and chance.random() < 0.8 else chance.choice(some_seats(min(9, room.size() + 1)))


def chance_deed(chance, room, word):
    k, name = chance_keeper(chance, room, word), chance.choice(NAMES)
    at = chance.choice([0, 0, 0, chance.randrange(30), chance.randrange(10 ** 6)])
    parts = {
        "stand": (k,), "wake": (k,), "beat": (k, chance.randrange(room.size())), "bring": (at,), "double": (at,), "lose": (at,),
        "again": (name,), "wish": (name, chance.choice(WISHES)), "turn": (name, k), "pack": (k, chance.randrange(12)),
        "move": (k, chance_seats(chance, room, k)),
    }
    return (word,) + parts[word]


def chance_schedule(seed, many):
    """A schedule by chance; a room goes along with it, so that something comes of most of its deeds."""
    chance = random.Random(seed)
    count = chance.randint(1, 5)
    seats, deeds = chance.choice(some_seats(count)), []
    room = Room(count, seats)
    weights = {"stand": chance.choice([1, 3]), "beat": 12, "bring": chance.choice([25, 50]), "double": 2, "lose": chance.choice([0, 2]),
               "wish": 6, "again": 3, "turn": 1, "move": 4, "pack": 3, "wake": chance.choice([0, 1])}
    for word in chance.choices(list(weights), list(weights.values()), k=many):
        deeds.append(chance_deed(chance, room, word))
        done_in(room, deeds[-1])
    return (count, seats, tuple(deeds))
