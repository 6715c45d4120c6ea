"""Schedules (count, seats, deeds) and their texts, a row for the room and a row for each deed."""

from keeplog.errors import NoLetter, NoSchedule
from keeplog.reading import Words, read_deed, read_name, read_number
from keeplog.things import first_word, fits, is_deed, is_from_nought, is_keeper, is_name, is_row_of, is_seats, is_whole
from keeplog.writing import deed_words, name_words, number_words

DEEDS_AT_MOST = 300

# Of what kinds the parts of each deed are, in their order.
PARTS = {
    "stand": ("keeper",),
    "beat": ("keeper", "keeper"),
    "bring": ("place",),
    "double": ("place",),
    "lose": ("place",),
    "wish": ("name", "deed"),
    "again": ("name",),
    "turn": ("name", "keeper"),
    "move": ("keeper", "seats"),
    "pack": ("keeper", "place"),
    "wake": ("keeper",),
}
ROOM_PARTS = ("count", "seats")


def is_part(kind, thing):
    if kind == "keeper":
        return is_keeper(thing)
    if kind == "name":
        return is_name(thing)
    if kind == "deed":
        return is_deed(thing)
    if kind == "seats":
        return is_seats(thing)
    return is_from_nought(thing) and thing < 10 ** 6


def is_deed_of_schedule(thing):
    kinds = PARTS.get(first_word(thing))
    if kinds is None or len(thing) != 1 + len(kinds):
        return False
    return all([is_part(kind, part) for kind, part in zip(kinds, thing[1:])])


def is_count(thing):
    return is_whole(thing) and 1 <= thing <= 9


def is_deeds(thing):
    return is_row_of(thing, is_deed_of_schedule) and len(thing) <= DEEDS_AT_MOST


def is_schedule(thing):
    return fits(thing, (is_count, is_seats, is_deeds)) and max(thing[1]) < thing[0]


def part_words(kind, part):
    if kind == "name":
        return name_words(part)
    if kind == "deed":
        return deed_words(part)
    if kind == "seats":
        return [str(seat) for seat in part]
    return number_words(part)


def row_of(word, kinds, parts):
    words = [word]
    for kind, part in zip(kinds, parts):
        words.extend(part_words(kind, part))
    return " ".join(words)


def rows_of(schedule):
    rows = [row_of("room", ROOM_PARTS, schedule)]
    for deed in schedule[2]:
        rows.append(row_of(deed[0], PARTS[deed[0]], deed[1:]))
    return rows


def written_schedule(schedule):
    if not is_schedule(schedule):
        raise NoSchedule("this is no schedule")
    try:
        rows = rows_of(schedule)
    except NoLetter:
        raise NoSchedule("a number has more than sixty figures") from None
    return "\n".join(rows + [""])


def read_rest(words):
    # Seats stand last in their row, so that nothing tells how many there are.
    numbers = []
    while not words.all_passed():
        numbers.append(read_number(words))
    return tuple(numbers)


def read_part(words, kind):
    if kind == "name":
        return read_name(words)
    if kind == "deed":
        return read_deed(words)
    if kind == "seats":
        return read_rest(words)
    return read_number(words)


def read_parts_of(words, kinds):
    parts = tuple([read_part(words, kind) for kind in kinds])
    if not words.all_passed():
        raise NoSchedule("a row has too many words")
    return parts


def read_room(row):
    words = Words(row)
    if words.word() != "room":
        raise NoSchedule("the first row tells of no room")
    return read_parts_of(words, ROOM_PARTS)


def read_deed_of_schedule(row):
    words = Words(row)
    word = words.word()
    if word not in PARTS:
        raise NoSchedule("a row's first word stands for no deed")
    return (word,) + read_parts_of(words, PARTS[word])


def schedule_of(rows):
    return read_room(rows[0]) + (tuple([read_deed_of_schedule(row) for row in rows[1:]]),)


def read_schedule(text):
    if not text.endswith("\n"):
        raise NoSchedule("the last row has no line end")
    try:
        # Behind the last line end the split has an empty text, which is no row.
        schedule = schedule_of(text.split("\n")[:-1])
    except NoLetter:
        raise NoSchedule("a row is no writing of a deed") from None
    if not is_schedule(schedule):
        raise NoSchedule("this is the writing of no schedule")
    return schedule
