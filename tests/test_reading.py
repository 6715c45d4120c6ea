import itertools
import random
import unittest

from keeplog.errors import NoLetter
from keeplog.reading import read
from keeplog.things import is_letter
from keeplog.writing import written
from tests.samples import LETTERS, OPEN

WORDS = ["", "0", "1", "2", "3", "5", "6", "8", "9", "10", "00", "01", "-0", "-1", "-01", "+1", "1_0", "1.0", "-", "--1", "a", "b",
         "A", "abcdefgh", "abcdefghi", "yes", "no", "Yes", "true", "none", "None", "open", "wish", "seats", "set", "add", "get",
         "ask", "\n", "1\n", "\t1", "9" * 60, "-" + "9" * 60, "1" + "0" * 60, "-1" + "0" * 60, "9" * 3999]


def edited(words):
    """All that comes of one change to a row of words."""
    for at in range(len(words)):
        yield words[:at] + words[at + 1:]
        yield words[:at] + words[at:at + 2][::-1] + words[at + 2:]
        for word in WORDS:
            yield words[:at] + [word] + words[at + 1:]
    for at in range(len(words) + 1):
        for word in WORDS:
            yield words[:at] + [word] + words[at:]


def some_name(chance):
    return "".join(chance.choice("abz") for turn in range(chance.randint(1, 8)))


def some_number(chance):
    return chance.choice([-1, 1]) * chance.randrange(10 ** chance.randint(1, 60))


def some_from_one(chance):
    return chance.randrange(1, 10 ** chance.randint(1, 60))


def some_deed(chance):
    return chance.choice([("set", some_name(chance), some_number(chance)), ("add", some_name(chance), some_number(chance)),
                          ("get", some_name(chance))])


def some_seats(chance):
    return tuple(sorted(chance.sample(range(9), chance.randint(1, 9))))


def some_entry(chance):
    wish = ("wish", some_name(chance), some_from_one(chance), some_deed(chance))
    return (some_from_one(chance), chance.choice([OPEN, wish, ("seats", some_seats(chance))]))


def some_store(chance, many):
    names = sorted({some_name(chance) for turn in range(many)})
    callers = sorted({some_name(chance) for turn in range(many)})
    return (tuple((name, some_number(chance)) for name in names),
            tuple((caller, some_from_one(chance), some_number(chance)) for caller in callers))


def some_letter(chance):
    one, other = chance.sample(range(9), 2)
    term = some_from_one(chance)
    end = chance.choice([(0, 0), (some_from_one(chance), some_from_one(chance))])
    pack = (some_from_one(chance), some_from_one(chance), some_seats(chance), some_store(chance, chance.randint(0, 6)))
    return chance.choice([
        ("ask", one, other, term) + end,
        ("voice", one, other, term, chance.choice([True, False])),
        ("hand", one, other, term) + end + (tuple(some_entry(chance) for turn in range(chance.randint(0, 5))), abs(some_number(chance))),
        ("pack", one, other, term, pack),
        ("held", one, other, term, chance.choice([True, False]), abs(some_number(chance))),
        ("wish", some_name(chance), other, some_from_one(chance), some_deed(chance)),
        ("told", one, some_name(chance), some_from_one(chance), some_number(chance)),
        ("away", one, some_name(chance), some_from_one(chance), chance.choice([None, other])),
    ])


class Reading(unittest.TestCase):
    def refused(self, text):
        with self.subTest(text=text[:200]):
            with self.assertRaises(NoLetter) as caught:
                read(text)
            self.assertIs(type(caught.exception), NoLetter)

    def test_each_writing_is_read_to_its_letter(self):
        for letter, text in LETTERS:
            with self.subTest(text=text):
                self.assertEqual(read(text), letter)
                # True equals 1, and is no whole number.
                self.assertEqual(repr(read(text)), repr(letter))

    def test_what_is_written_is_read_back(self):
        chance = random.Random(7)
        for turn in range(4000):
            letter = some_letter(chance)
            self.assertEqual(repr(read(written(letter))), repr(letter))

    def test_a_large_store_is_read_back(self):
        names = ["".join(letters) for letters in itertools.product("abcdefghijkl", repeat=4)]
        store = (tuple((name, 5) for name in names), tuple((name, 1, -5) for name in names))
        letter = ("pack", 0, 1, 1, (1, 1, (0,), store))
        self.assertEqual(read(written(letter)), letter)

    def test_every_text_near_a_writing_is_one_or_is_refused(self):
        taken = 0
        for letter, text in LETTERS:
            for words in edited(text.split(" ")):
                line = " ".join(words)
                try:
                    near = read(line)
                except NoLetter:
                    continue
                taken = taken + 1
                self.assertIs(is_letter(near), True)
                self.assertEqual(written(near), line)
        self.assertGreater(taken, len(LETTERS))

    def test_blanks_more_are_refused(self):
        for letter, text in LETTERS:
            for at, sign in enumerate(text):
                if sign == " ":
                    for blanks in ("  ", "\t", "\n", " \n", "\t ", "", "\r", "\x0b", "_"):
                        self.refused(text[:at] + blanks + text[at + 1:])
            for line in (" " + text, text + " ", text + "\n", "\n" + text, text + "\t", text + "\r\n", "\t" + text):
                self.refused(line)

    def test_words_too_few_or_too_many_are_refused(self):
        for letter, text in LETTERS:
            words = text.split(" ")
            for many in range(len(words)):
                self.refused(" ".join(words[:many]))
            for word in ("0", "1", "a", "open", "none", "yes", ""):
                self.refused(text + " " + word)

    def test_noughts_ahead_and_their_like_are_refused(self):
        for letter, text in LETTERS:
            words = text.split(" ")
            for at, word in enumerate(words):
                if word.lstrip("-").isdigit():
                    bare = word.lstrip("-")
                    for other in ("0" + word, "00" + word, "-0" + bare, "+" + bare, "--" + bare, bare + "-", bare + ".0", "0x" + bare,
                                  bare + "_0", "_" + bare, bare + "e0", bare + "L", "- " + bare):
                        self.refused(" ".join(words[:at] + [other] + words[at + 1:]))

    def test_minus_nought_is_refused(self):
        for text in ("told 0 a 1 -0", "told -0 a 1 0", "wish a 0 1 set b -0", "ask 0 1 1 -0 0", "ask 0 1 1 0 -0", "held 0 1 1 yes -0",
                     "hand 0 1 1 0 0 -0 0", "hand 0 1 1 0 0 0 -0", "pack 0 1 1 1 1 1 0 -0 0", "pack 0 1 1 1 1 1 0 0 -0",
                     "away 0 a 1 -0"):
            self.refused(text)

    def test_numbers_out_of_bounds_are_refused(self):
        for text in ("ask 0 0 1 0 0", "ask 9 1 1 0 0", "ask 0 9 1 0 0", "ask -1 1 1 0 0", "ask 0 1 0 0 0", "ask 0 1 -1 0 0",
                     "ask 0 1 1 0 1", "ask 0 1 1 1 0", "ask 0 1 1 -1 -1", "ask 0 1 1 1 -1", "voice 3 3 1 yes", "voice 0 1 0 yes",
                     "held 0 1 1 yes -1", "held 0 1 0 no 0", "held 2 2 1 no 0", "wish a 9 1 get b", "wish a 0 0 get b",
                     "wish a 0 -1 get b", "told 9 a 1 0", "told 0 a 0 0", "away 0 a 0 none", "away 9 a 1 none", "away 0 a 1 9",
                     "away 0 a 1 -1", "hand 0 1 1 0 0 -1 0", "hand 0 1 1 0 1 0 0", "hand 0 1 1 1 0 0 0", "hand 0 1 1 0 0 0 -1",
                     "hand 0 1 1 0 0 0 1 0 open", "hand 0 1 1 0 0 0 1 -1 open", "hand 0 1 1 0 0 0 1 1 wish a 0 get b",
                     "hand 0 1 1 0 0 0 6" + " 1 open" * 6, "hand 0 1 1 0 0 0 1 1 seats 0", "hand 0 1 1 0 0 0 1 1 seats -1",
                     "hand 0 1 1 0 0 0 1 1 seats 1 9", "hand 0 1 1 0 0 0 1 1 seats 2 1 0", "hand 0 1 1 0 0 0 1 1 seats 2 1 1",
                     "hand 0 1 1 0 0 0 1 1 seats 10 0 1 2 3 4 5 6 7 8 9", "pack 0 1 1 0 0 1 0 0 0", "pack 0 1 1 1 0 1 0 0 0",
                     "pack 0 1 1 0 1 1 0 0 0", "pack 0 1 1 1 1 0 0 0", "pack 0 1 1 1 1 1 0 -1 0", "pack 0 1 1 1 1 1 0 0 -1",
                     "pack 0 1 1 1 1 1 0 0 1 a 0 5", "pack 0 1 1 1 1 1 0 0 1 a -1 5", "pack 0 1 1 1 1 2 1 0 0 0",
                     "pack 0 0 1 1 1 1 0 0 0"):
            self.refused(text)

    def test_numbers_of_sixty_one_figures_are_refused(self):
        long = "1" + "0" * 60
        for number in (long, "-" + long, "9" * 61, "-" + "9" * 61, "1" * 3999, "1" * 10000):
            self.refused("told 0 a 1 " + number)
            self.refused("wish a 0 1 set b " + number)
            self.refused("pack 0 1 1 1 1 1 0 1 a " + number + " 0")
            self.refused("hand 0 1 1 0 0 0 1 1 wish a 1 add b " + number)
        for text in ("ask 0 1 {} 0 0", "ask 0 1 1 {} 1", "ask 0 1 1 1 {}", "held 0 1 1 yes {}", "told 0 a {} 0",
                     "hand 0 1 1 0 0 {} 0", "hand 0 1 1 0 0 0 1 {} open", "pack 0 1 1 1 1 1 0 0 1 a {} 0"):
            self.refused(text.format(long))
            self.assertEqual(written(read(text.format(long[:60]))), text.format(long[:60]))

    def test_names_that_are_none_or_not_by_the_alphabet_are_refused(self):
        for name in ("", "A", "aB", "abcdefghi", "a1", "1", "-", "a_"):
            for text in ("wish {} 0 1 get b", "wish a 0 1 get {}", "wish a 0 1 set {} 1", "told 0 {} 1 0", "away 0 {} 1 none",
                         "pack 0 1 1 1 1 1 0 1 {} 5 0", "pack 0 1 1 1 1 1 0 0 1 {} 1 5", "hand 0 1 1 0 0 0 1 1 wish {} 1 get b",
                         "hand 0 1 1 0 0 0 1 1 wish a 1 add {} 1"):
                self.refused(text.format(name))
        for names in ("b 1 a 1", "a 1 a 1", "a 1 a 2", "ab 1 a 1", "b 1 ab 1"):
            self.refused("pack 0 1 1 1 1 1 0 2 " + names + " 0")
        for callers in ("b 1 1 a 1 1", "a 1 1 a 1 1", "a 1 1 a 2 1", "ab 1 1 a 1 1"):
            self.refused("pack 0 1 1 1 1 1 0 0 2 " + callers)

    def test_counts_that_are_not_kept_are_refused(self):
        huge = "9" * 60
        for text in ("hand 0 1 1 0 0 0 1", "hand 0 1 1 0 0 0 0 1 open", "hand 0 1 1 0 0 0 2 1 open", "hand 0 1 1 0 0 0 " + huge,
                     "hand 0 1 1 0 0 0 " + huge + " 1 open", "hand 0 1 1 0 0 0 1 1 seats " + huge + " 0 1",
                     "pack 0 1 1 1 1 1 0 1 0", "pack 0 1 1 1 1 1 0 " + huge + " a 1 0", "pack 0 1 1 1 1 2 0 0 0",
                     "pack 0 1 1 1 1 1 0 0 " + huge + " a 1 1"):
            self.refused(text)

    def test_other_words_are_refused(self):
        for text in ("", " ", "ask", "asks 0 1 1 0 0", "ASK 0 1 1 0 0", "Ask 0 1 1 0 0", "0 1 1 0 0", "voice 0 1 1", "voice 0 1 1 Yes",
                     "voice 0 1 1 True", "voice 0 1 1 1", "voice 0 1 1 y", "voice 0 1 1 none", "held 0 1 1 0 yes", "held 0 1 1 maybe 0",
                     "away 0 a 1 None", "away 0 a 1 no", "away 0 a 1 a", "away 0 a 1 -", "wish a 0 1 open", "wish a 0 1 put b 1",
                     "wish a 0 1 get b 1", "wish a 0 1 set b", "wish a 0 1 set b c", "wish 0 a 1 get b", "told a 0 1 1", "told 0 a 1 none",
                     "hand 0 1 1 0 0 0 1 1 get a", "hand 0 1 1 0 0 0 1 1 close", "hand 0 1 1 0 0 0 1 open 1", "open", "set a 1",
                     "('ask', 0, 1, 1, 0, 0)", "ask,0,1,1,0,0"):
            self.refused(text)


if __name__ == "__main__":
    unittest.main()
