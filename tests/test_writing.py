import unittest

from keeplog.errors import NoLetter
from keeplog.things import is_letter
from keeplog.writing import written
from tests.samples import FIVE, LETTERS, OPEN, SIXTY, SIXTY_ONE, STORE, deep, spoilt, with_part


def letters_with(number):
    """Letters that have the number, from 1 on, at each place where a number of any size may stand."""
    answers = ((), (("a", 1, number),))
    return [
        ("ask", 0, 1, number, 1, 1), ("ask", 0, 1, 1, number, 1), ("ask", 0, 1, 1, 1, number),
        ("voice", 0, 1, number, True), ("held", 0, 1, number, True, 0), ("held", 0, 1, 1, False, number),
        ("hand", 0, 1, number, 1, 1, (), 0), ("hand", 0, 1, 1, number, 1, (), 0), ("hand", 0, 1, 1, 1, number, (), 0),
        ("hand", 0, 1, 1, 1, 1, (), number), ("hand", 0, 1, 1, 1, 1, (FIVE[0], (number, OPEN)), 0),
        ("hand", 0, 1, 1, 1, 1, ((1, ("wish", "a", number, ("get", "a"))),), 0),
        ("hand", 0, 1, 1, 1, 1, ((1, ("wish", "a", 1, ("set", "a", number))),), 0),
        ("pack", 0, 1, number, (1, 1, (0,), STORE)), ("pack", 0, 1, 1, (number, 1, (0,), STORE)),
        ("pack", 0, 1, 1, (1, number, (0,), STORE)), ("pack", 0, 1, 1, (1, 1, (0,), ((("a", number),), ()))),
        ("pack", 0, 1, 1, (1, 1, (0,), ((), (("a", number, 1),)))), ("pack", 0, 1, 1, (1, 1, (0,), answers)),
        ("wish", "a", 0, number, ("get", "a")), ("wish", "a", 0, 1, ("set", "a", number)),
        ("wish", "a", 0, 1, ("add", "a", number)), ("told", 0, "a", number, 1), ("told", 0, "a", 1, number),
        ("away", 0, "a", number, None),
    ]


def letters_with_below_nought(number):
    """Letters that have the number, which may be below nought, at each place where it may be so."""
    return [
        ("hand", 0, 1, 1, 1, 1, ((1, ("wish", "a", 1, ("add", "a", number))),), 0),
        ("pack", 0, 1, 1, (1, 1, (0,), ((("a", number),), ()))), ("pack", 0, 1, 1, (1, 1, (0,), ((), (("a", 1, number),)))),
        ("wish", "a", 0, 1, ("set", "a", number)), ("wish", "a", 0, 1, ("add", "a", number)), ("told", 0, "a", 1, number),
    ]


class Writing(unittest.TestCase):
    def refused(self, thing):
        with self.assertRaises(NoLetter) as caught:
            written(thing)
        self.assertIs(type(caught.exception), NoLetter)

    def test_each_letter_is_written_as_told(self):
        for letter, text in LETTERS:
            with self.subTest(text=text):
                self.assertEqual(written(letter), text)

    def test_numbers_of_up_to_sixty_figures(self):
        for letter in letters_with(SIXTY):
            self.assertIn("9" * 60, written(letter).split(" "))
        for letter in letters_with(10 ** 59):
            self.assertIn("1" + "0" * 59, written(letter).split(" "))
        for letter in letters_with_below_nought(-SIXTY):
            self.assertIn("-" + "9" * 60, written(letter).split(" "))

    def test_longer_numbers_are_refused(self):
        for number in (SIXTY_ONE, SIXTY_ONE + 1, 10 ** 70, 10 ** 3999, 10 ** 6000):
            for letter in letters_with(number) + letters_with_below_nought(-number):
                self.assertIs(is_letter(letter), True)
                self.refused(letter)

    def test_what_is_no_letter_is_refused(self):
        for thing in (None, True, 0, "", "ask 0 1 1 0 0", (), [], "ask", ("ask",), OPEN, FIVE[0], STORE, ("ask", 0, 0, 1, 0, 0),
                      ("ask", 0, 1, 0, 0, 0), ("hand", 0, 1, 1, 0, 0, FIVE + FIVE[:1], 0), ("hand", 0, 1, 1, 0, 1, (), 0),
                      ("pack", 0, 1, 1, (0, 0, (0,), ((), ()))), ("told", 0, "Bob", 1, 0), ("tell", 0, "bob", 1, 0)):
            self.refused(thing)
        for letter, text in LETTERS:
            for thing in spoilt(letter):
                self.refused(thing)

    def test_things_however_deep_are_refused(self):
        for make in (tuple, list):
            thing = deep(make, 200000)
            self.refused(thing)
            for letter, text in LETTERS:
                for at in range(len(letter)):
                    self.refused(with_part(letter, at, thing))

    def test_lists_that_are_handed_in_are_not_changed(self):
        thing = ["hand", 0, 1, 1, 1, 1, [[1, ["open"]]], 0]
        self.refused(thing)
        self.assertEqual(thing, ["hand", 0, 1, 1, 1, 1, [[1, ["open"]]], 0])


if __name__ == "__main__":
    unittest.main()
