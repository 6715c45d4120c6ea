"""Seats: whether some keepers are most of them, whether they are one off others, and which are in force by a row."""


def unlike(numbers, others):
    # Those of the numbers that the others don't have.
    return [number for number in numbers if number not in others]


def most(seats, those):
    among = len(seats) - len(unlike(seats, those))
    return 2 * among > len(seats)


def one_off(seats, others):
    return len(unlike(seats, others)) + len(unlike(others, seats)) == 1


def holds_seats(entry):
    return entry[1][0] == "seats"


def seats_of(row, first):
    seats = first
    for entry in row[2]:
        if holds_seats(entry):
            seats = entry[1][1]
    return seats


def seats_place(row):
    base = row[0]
    last_place = base
    for place, entry in enumerate(row[2], start=base + 1):
        if holds_seats(entry):
            last_place = place
    return last_place
