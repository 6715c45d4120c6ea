"""Counting by seats: the place that most of them hold, who holds a place, and where two tuples of keepers meet."""

from keeplog.seats import most


def holders(seats, held, place):
    return tuple([seat for seat in seats if held[seat] >= place])


def reached(seats, held):
    # The greatest place that most hold is a seat's own one: above that its holder is one of them no more.
    places = [held[seat] for seat in seats if most(seats, holders(seats, held, held[seat]))]
    return max([0] + places)


def meeting(seats, those, others, these):
    in_both = [number for number in those if number in these]
    return min([number for number in in_both if number in seats and number in others], default=None)
