"""Stores (names, callers): the value of a name, deeds done, and what entries hold applied.

The store that is handed in stays as it was.
"""


def fresh():
    return ((), ())


def part_of(parts, name):
    # The part that begins with the name; None where it doesn't stand.
    for part in parts:
        if part[0] == name:
            return part
    return None


def with_part(parts, part):
    # The part comes in the place of the one of its name, or where the alphabet puts it.
    name = part[0]
    ahead = [own for own in parts if own[0] < name]
    later = [own for own in parts if own[0] > name]
    return tuple(ahead + [part] + later)


def number_at(parts, name):
    # A name's value and a caller's number stand alike, right behind the name.
    part = part_of(parts, name)
    if part is None:
        return 0
    return part[1]


def value_of(store, name):
    return number_at(store[0], name)


def with_value(store, name, value):
    return (with_part(store[0], (name, value)), store[1])


def done(store, deed):
    name = deed[1]
    ahead = value_of(store, name)
    if deed[0] == "get":
        return (store, ahead)
    if deed[0] == "set":
        return (with_value(store, name, deed[2]), ahead)
    together = ahead + deed[2]
    return (with_value(store, name, together), together)


def number_of(store, caller):
    return number_at(store[1], caller)


def answer_of(store, caller, number):
    triple = part_of(store[1], caller)
    if triple is None or triple[1] != number:
        return None
    return triple[2]


def applied(store, what):
    # A number that is not greater was answered already: the road may have brought the wish twice.
    if what[0] != "wish" or what[2] <= number_of(store, what[1]):
        return store
    pair = done(store, what[3])
    return (pair[0][0], with_part(pair[0][1], (what[1], what[2], pair[1])))


def replayed(store, entries):
    for entry in entries:
        store = applied(store, entry[1])
    return store
