"""Handing on: a head beats to another keeper, and a keeper takes the hand or the pack that is written so."""

from keeplog.filling import filled, taken_over
from keeplog.rows import agrees, behind, end_of, term_at
from keeplog.stores import replayed

ENTRIES_IN_A_HAND = 5


def beat(keeper, other):
    if keeper.way != "head":
        return []
    following = keeper.nexts[other]
    if following <= keeper.row[0]:
        return [("pack", keeper.number, other, keeper.term, keeper.pack)]
    place = following - 1
    last = term_at(keeper.row, place)
    entries = behind(keeper.row, place, ENTRIES_IN_A_HAND)
    return [("hand", keeper.number, other, keeper.term, place, last, entries, keeper.agreed)]


def took_for_head(keeper, letter):
    # Tells whether it goes by the writer of the letter from then on.
    keeper.hear(letter[3])
    if letter[3] < keeper.term or keeper.way == "head":
        return False
    keeper.way = "plain"
    keeper.voices = ()
    keeper.head = letter[1]
    return True


def held_letter(keeper, other, good, place):
    return ("held", keeper.number, other, keeper.term, good, place)


def turned_down(keeper, letter):
    # One of a lower term is told, so that it hears of the greater one.
    if letter[3] < keeper.term:
        return [held_letter(keeper, letter[1], False, end_of(keeper.row))]
    return []


def know_agreed(keeper, place):
    if place > keeper.agreed:
        entries = behind(keeper.row, keeper.agreed, place - keeper.agreed)
        keeper.store = replayed(keeper.store, entries)
        keeper.agreed = place


def take_hand(keeper, letter):
    if not took_for_head(keeper, letter):
        return turned_down(keeper, letter)
    one = letter[1]
    place = letter[4]
    entries = letter[6]
    if not agrees(keeper.row, place, letter[5]):
        return [held_letter(keeper, one, False, min(place - 1, end_of(keeper.row)))]
    keeper.row = filled(keeper.row, place, entries)
    # Of what its row has behind the hand's end nobody told that the head has it too.
    end = place + len(entries)
    know_agreed(keeper, min(letter[7], end))
    return [held_letter(keeper, one, True, max(end, keeper.row[0]))]


def take_over(keeper, pack):
    keeper.row = taken_over(keeper.row, pack[0], pack[1])
    keeper.pack = pack
    keeper.agreed = pack[0]
    keeper.store = pack[3]


def take_pack(keeper, letter):
    if not took_for_head(keeper, letter):
        return turned_down(keeper, letter)
    pack = letter[4]
    # What it knows already it keeps, entry by entry: the pack may be an old one, brought late.
    if pack[0] > keeper.agreed:
        take_over(keeper, pack)
    return [held_letter(keeper, letter[1], True, pack[0])]
