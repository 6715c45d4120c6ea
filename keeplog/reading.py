"""Texts as letters: each text is read to the letter of which it is the writing.

What reads a part takes as many words as the part's writing has, or refuses; whether the parts that
are read come to a letter is looked at once, at the end.
"""

from keeplog.errors import NoLetter
from keeplog.things import is_letter
from keeplog.writing import last_two_changed


class Words:
    def __init__(self, line):
        # Split at each blank, so that a blank more gives an empty word, which nothing is written as.
        self.words = line.split(" ")
        self.passed = 0

    def word(self):
        if self.all_passed():
            raise NoLetter("the words are too few")
        self.passed = self.passed + 1
        return self.words[self.passed - 1]

    def all_passed(self):
        return self.passed == len(self.words)


def is_number_word(word):
    figures = word[1:] if word.startswith("-") else word
    # The length ahead of all: int refuses very long words in its own way.
    if not 1 <= len(figures) <= 60:
        return False
    # Not isdigit, which holds for figures of other scripts too.
    if not all(["0" <= sign <= "9" for sign in figures]):
        return False
    return word == "0" or not figures.startswith("0")


def read_number(words):
    word = words.word()
    if not is_number_word(word):
        raise NoLetter("a number is asked for")
    return int(word)


def read_name(words):
    return words.word()


def read_truth(words):
    word = words.word()
    if word not in ("yes", "no"):
        raise NoLetter("yes or no is asked for")
    return word == "yes"


def read_head(words):
    word = words.word()
    if word == "none":
        return None
    if not is_number_word(word):
        raise NoLetter("a keeper or none is asked for")
    return int(word)


def read_parts(words, readers):
    return tuple([reader(words) for reader in readers])


def read_behind_word(words, word, readers):
    # A word that its table doesn't have comes here with None.
    if readers is None:
        raise NoLetter("this word is not known here")
    return (word,) + read_parts(words, readers)


def read_counted(words, reader):
    count = read_number(words)
    if count < 0:
        raise NoLetter("how many is below nought")
    return tuple([reader(words) for turn in range(count)])


def read_seats(words):
    return read_counted(words, read_number)


DEED_READERS = {
    "set": (read_name, read_number),
    "add": (read_name, read_number),
    "get": (read_name,),
}


def read_deed(words):
    word = words.word()
    return read_behind_word(words, word, DEED_READERS.get(word))


WHAT_READERS = {
    "open": (),
    "wish": (read_name, read_number, read_deed),
    "seats": (read_seats,),
}


def read_what(words):
    word = words.word()
    return read_behind_word(words, word, WHAT_READERS.get(word))


def read_entry(words):
    return read_parts(words, (read_number, read_what))


def read_entries(words):
    return read_counted(words, read_entry)


def read_name_pair(words):
    return read_parts(words, (read_name, read_number))


def read_caller_triple(words):
    return read_parts(words, (read_name, read_number, read_number))


def read_name_pairs(words):
    return read_counted(words, read_name_pair)


def read_caller_triples(words):
    return read_counted(words, read_caller_triple)


def read_store(words):
    return read_parts(words, (read_name_pairs, read_caller_triples))


def read_pack(words):
    return read_parts(words, (read_number, read_number, read_seats, read_store))


LETTER_READERS = {
    "ask": (read_number, read_number, read_number, read_number, read_number),
    "voice": (read_number, read_number, read_number, read_truth),
    "hand": (read_number, read_number, read_number, read_number, read_number, read_number, read_entries),
    "pack": (read_number, read_number, read_number, read_pack),
    "held": (read_number, read_number, read_number, read_truth, read_number),
    "wish": (read_name, read_number, read_number, read_deed),
    "told": (read_number, read_name, read_number, read_number),
    "away": (read_number, read_name, read_number, read_head),
}


def read(line):
    words = Words(line)
    word = words.word()
    parts = read_behind_word(words, word, LETTER_READERS.get(word))
    letter = last_two_changed(parts) if word == "hand" else parts
    if not words.all_passed() or not is_letter(letter):
        raise NoLetter("this is the writing of no letter")
    return letter
