"""Voices: a keeper stands, takes asks for its voice and the voices of others, and comes to be head."""

from keeplog.agreeing import agree, enter
from keeplog.handing import beat
from keeplog.keepers import seats_now
from keeplog.rows import as_new, end_of, term_at
from keeplog.seats import most


def other_seats(keeper):
    return [seat for seat in seats_now(keeper) if seat != keeper.number]


def come_to_be_head(keeper):
    keeper.way = "head"
    keeper.head = keeper.number
    # Ahead of the open entry, so that the first hand to each other one brings it.
    keeper.know_no_places()
    enter(keeper, ("open",))
    letters = agree(keeper)
    # A head that stepped back in agreeing beats to none any more.
    for other in other_seats(keeper):
        letters.extend(beat(keeper, other))
    return letters


def has_most_voices(keeper):
    return most(seats_now(keeper), keeper.voices)


def stand(keeper):
    keeper.hear(keeper.term + 1)
    keeper.voice = keeper.number
    keeper.way = "standing"
    keeper.voices = (keeper.number,)
    if has_most_voices(keeper):
        return come_to_be_head(keeper)
    end = end_of(keeper.row)
    last = term_at(keeper.row, end)
    return [("ask", keeper.number, other, keeper.term, end, last) for other in other_seats(keeper)]


def may_give(keeper, letter):
    if letter[3] != keeper.term or keeper.voice not in (None, letter[1]):
        return False
    return as_new(letter[5], letter[4], keeper.row)


def take_ask(keeper, letter):
    one = letter[1]
    keeper.hear(letter[3])
    given = may_give(keeper, letter)
    if given:
        keeper.voice = one
    return [("voice", keeper.number, one, keeper.term, given)]


def take_voice(keeper, letter):
    keeper.hear(letter[3])
    if keeper.way != "standing" or letter[3] != keeper.term or not letter[4]:
        return []
    # The road may bring a voice twice; it counts once.
    keeper.voices = tuple(sorted(set(keeper.voices + (letter[1],))))
    if has_most_voices(keeper):
        return come_to_be_head(keeper)
    return []
