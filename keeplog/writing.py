"""Letters as texts: how each is written as a row of words.

What writes a part gives the list of its words, for a part may come to several.
"""

from keeplog.errors import NoLetter
from keeplog.things import is_letter


def number_words(number):
    # Compared, not shown and counted: Python refuses to show very long numbers.
    if abs(number) >= 10 ** 60:
        raise NoLetter("a number has more than sixty figures")
    return [str(number)]


def name_words(name):
    return [name]


def truth_words(truth):
    return ["yes" if truth else "no"]


def head_words(head):
    return ["none"] if head is None else number_words(head)


def words_of_parts(parts, writers):
    words = []
    for part, writer in zip(parts, writers):
        words.extend(writer(part))
    return words


def counted_words(parts, writer):
    words = number_words(len(parts))
    for part in parts:
        words.extend(writer(part))
    return words


def seats_words(seats):
    return counted_words(seats, number_words)


DEED_WRITERS = {
    "set": (name_words, number_words),
    "add": (name_words, number_words),
    "get": (name_words,),
}


def deed_words(deed):
    return [deed[0]] + words_of_parts(deed[1:], DEED_WRITERS[deed[0]])


WHAT_WRITERS = {
    "open": (),
    "wish": (name_words, number_words, deed_words),
    "seats": (seats_words,),
}


def what_words(what):
    return [what[0]] + words_of_parts(what[1:], WHAT_WRITERS[what[0]])


def entry_words(entry):
    return words_of_parts(entry, (number_words, what_words))


def entries_words(entries):
    return counted_words(entries, entry_words)


def name_pair_words(pair):
    return words_of_parts(pair, (name_words, number_words))


def caller_triple_words(triple):
    return words_of_parts(triple, (name_words, number_words, number_words))


def store_words(store):
    return counted_words(store[0], name_pair_words) + counted_words(store[1], caller_triple_words)


def pack_words(pack):
    return words_of_parts(pack, (number_words, number_words, seats_words, store_words))


LETTER_WRITERS = {
    "ask": (number_words, number_words, number_words, number_words, number_words),
    "voice": (number_words, number_words, number_words, truth_words),
    "hand": (number_words, number_words, number_words, number_words, number_words, number_words, entries_words),
    "pack": (number_words, number_words, number_words, pack_words),
    "held": (number_words, number_words, number_words, truth_words, number_words),
    "wish": (name_words, number_words, number_words, deed_words),
    "told": (number_words, name_words, number_words, number_words),
    "away": (number_words, name_words, number_words, head_words),
}


def last_two_changed(parts):
    # A hand's text has agreed ahead of the entries, the hand itself has it behind them.
    return parts[:-2] + (parts[-1], parts[-2])


def written(letter):
    if not is_letter(letter):
        raise NoLetter("this is no letter")
    word = letter[0]
    parts = last_two_changed(letter[1:]) if word == "hand" else letter[1:]
    return " ".join([word] + words_of_parts(parts, LETTER_WRITERS[word]))
