"""Rows made of rows: with an entry more, filled, cut off, taken over. The row that is handed in stays as it was."""

from keeplog.errors import NoPlace
from keeplog.rows import agrees, behind, end_of, term_at


def put(row, entry):
    return (row[0], row[1], row[2] + (entry,))


def same_ahead(own, others):
    # How many of the first ones are of the same terms.
    many = 0
    for entry, other in zip(own, others):
        if entry[0] != other[0]:
            return many
        many = many + 1
    return many


def filled(row, place, entries):
    if place > end_of(row):
        raise NoPlace("a row is not filled from behind its end")
    base = row[0]
    start = max(place, base)
    come = entries[start - place:]
    own = row[2][start - base:]
    same = same_ahead(own, come)
    # What the row has behind stays: the entries may be old ones, brought late.
    if same == len(come):
        return row
    return (base, row[1], row[2][:start - base + same] + come[same:])


def cut_off(row, place):
    return (place, term_at(row, place), behind(row, place, len(row[2])))


def taken_over(row, place, last):
    if place <= row[0]:
        return row
    if agrees(row, place, last):
        return cut_off(row, place)
    return (place, last, ())
