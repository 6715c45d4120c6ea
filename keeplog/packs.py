"""Packs (place, last, seats, store): what the entries up to a place come to, to stand in their place."""

from keeplog.rows import behind, term_at
from keeplog.seats import seats_of
from keeplog.stores import fresh, replayed


def first_pack(seats):
    return (0, 0, seats, fresh())


def pack_at(pack, row, place):
    # Asked first, for it refuses every place that the row doesn't have.
    last = term_at(row, place)
    base = row[0]
    entries = behind(row, base, place - base)
    # Seats that stand behind the place are not yet in force there.
    seats = seats_of((base, row[1], entries), pack[2])
    return (place, last, seats, replayed(pack[3], entries))
