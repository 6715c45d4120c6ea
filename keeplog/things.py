"""Tellers: of any thing, whether it is a name, a deed, a letter and so on.

Each looks no deeper into a thing than the form that it asks for goes, so that a thing may be of any depth.
"""


def is_whole(thing):
    # To Python a truth is an int too.
    return isinstance(thing, int) and not isinstance(thing, bool)


def is_truth(thing):
    return isinstance(thing, bool)


def is_from_nought(thing):
    return is_whole(thing) and thing >= 0


def is_from_one(thing):
    return is_whole(thing) and thing >= 1


def is_keeper(thing):
    return is_whole(thing) and 0 <= thing <= 8


def is_head(thing):
    return thing is None or is_keeper(thing)


def is_name(thing):
    return isinstance(thing, str) and 1 <= len(thing) <= 8 and all(["a" <= sign <= "z" for sign in thing])


def is_rising(parts):
    return all([part < later for part, later in zip(parts, parts[1:])])


def is_row_of(thing, teller):
    return isinstance(thing, tuple) and all([teller(part) for part in thing])


def fits(thing, tellers):
    # The lengths are looked at, for zip passes over what one side has more.
    if not isinstance(thing, tuple) or len(thing) != len(tellers):
        return False
    return all([teller(part) for teller, part in zip(tellers, thing)])


def first_word(thing):
    # Never more than a text, for it is looked up: a list can't be, nor a tuple of any depth.
    if isinstance(thing, tuple) and len(thing) >= 1 and isinstance(thing[0], str):
        return thing[0]
    return ""


def fits_behind_word(thing, tellers):
    # A word that its table doesn't have comes here with None.
    return tellers is not None and fits(thing[1:], tellers)


DEED_TELLERS = {
    "set": (is_name, is_whole),
    "add": (is_name, is_whole),
    "get": (is_name,),
}


def is_deed(thing):
    return fits_behind_word(thing, DEED_TELLERS.get(first_word(thing)))


def is_seats(thing):
    return is_row_of(thing, is_keeper) and 1 <= len(thing) <= 9 and is_rising(thing)


WHAT_TELLERS = {
    "open": (),
    "wish": (is_name, is_from_one, is_deed),
    "seats": (is_seats,),
}


def is_what(thing):
    return fits_behind_word(thing, WHAT_TELLERS.get(first_word(thing)))


def is_entry(thing):
    return fits(thing, (is_from_one, is_what))


def is_entries(thing):
    return is_row_of(thing, is_entry) and len(thing) <= 5


def is_name_pair(thing):
    return fits(thing, (is_name, is_whole))


def is_caller_triple(thing):
    return fits(thing, (is_name, is_from_one, is_whole))


def is_by_alphabet(thing, teller):
    return is_row_of(thing, teller) and is_rising([part[0] for part in thing])


def is_names(thing):
    return is_by_alphabet(thing, is_name_pair)


def is_callers(thing):
    return is_by_alphabet(thing, is_caller_triple)


def is_store(thing):
    return fits(thing, (is_names, is_callers))


def is_end(place, last):
    return (place == 0) == (last == 0)


def is_pack(thing):
    return fits(thing, (is_from_nought, is_from_nought, is_seats, is_store)) and is_end(thing[0], thing[1])


def is_pack_to_send(thing):
    return is_pack(thing) and thing[0] >= 1


LETTER_TELLERS = {
    "ask": (is_keeper, is_keeper, is_from_one, is_from_nought, is_from_nought),
    "voice": (is_keeper, is_keeper, is_from_one, is_truth),
    "hand": (is_keeper, is_keeper, is_from_one, is_from_nought, is_from_nought, is_entries, is_from_nought),
    "pack": (is_keeper, is_keeper, is_from_one, is_pack_to_send),
    "held": (is_keeper, is_keeper, is_from_one, is_truth, is_from_nought),
    "wish": (is_name, is_keeper, is_from_one, is_deed),
    "told": (is_keeper, is_name, is_from_one, is_whole),
    "away": (is_keeper, is_name, is_from_one, is_head),
}


def is_letter(thing):
    word = first_word(thing)
    if not fits_behind_word(thing, LETTER_TELLERS.get(word)):
        return False
    # Where one of the two is a caller's name they are unlike always.
    if thing[1] == thing[2]:
        return False
    return word not in ("ask", "hand") or is_end(thing[4], thing[5])
