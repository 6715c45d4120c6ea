"""Rows, read: where a row (base, last, entries) ends, what it has at a place, how new it is, where it agrees.

Of an entry nothing but its term is looked at.
"""

from keeplog.errors import NoPlace


def begun():
    return (0, 0, ())


def end_of(row):
    return row[0] + len(row[2])


def entry_at(row, place):
    base = row[0]
    if place <= base or place > end_of(row):
        raise NoPlace("the row has no entry at this place")
    return row[2][place - base - 1]


def term_at(row, place):
    base = row[0]
    if place == base:
        return row[1]
    return entry_at(row, place)[0]


def behind(row, place, many):
    base = row[0]
    if place < base or place > end_of(row):
        raise NoPlace("the row does not reach this place")
    start = place - base
    # The stop is kept from lying ahead of the start, for one below nought would count from the end.
    return row[2][start:max(start, start + many)]


def newness(row):
    end = end_of(row)
    return (term_at(row, end), end)


def as_new(last, place, row):
    end = end_of(row)
    term = term_at(row, end)
    return last > term or (last == term and place >= end)


def agrees(row, place, last):
    # What is packed was agreed, so there is no other term that it could have.
    if place < row[0]:
        return True
    return place <= end_of(row) and term_at(row, place) == last
