import itertools
import unittest

from keeplog.callers import Caller
from keeplog.things import is_letter
from tests.samples import HUGE

SET = ("set", "x", 5)
ADD = ("add", "y", -1)
GET = ("get", "x")
VALUES = ("name", "number", "waits", "deed", "asks", "told")


def told(number, answer, caller="al", one=0):
    return ("told", one, caller, number, answer)


def away(number, head, caller="al", one=0):
    return ("away", one, caller, number, head)


class WholeCaller(unittest.TestCase):
    def has(self, caller, *values):
        self.assertEqual(tuple(getattr(caller, name) for name in VALUES), values)
        self.assertIsInstance(caller.waits, bool)
        self.assertIsInstance(caller.told, list)

    def writes(self, given, *letters):
        self.assertEqual(given, list(letters))
        self.assertIsInstance(given, list)
        self.assertTrue(all(is_letter(letter) for letter in given), given)

    def waiting(self, deed=SET, keeper=0):
        caller = Caller("al", keeper)
        caller.wish(deed)
        return caller


class Begins(WholeCaller):
    def test_a_caller_that_is_made(self):
        for name, keeper in (("a", 0), ("al", 3), ("abcdefgh", 8)):
            self.has(Caller(name, keeper), name, 0, False, None, keeper, [])

    def test_callers_share_nothing(self):
        one, other = Caller("al", 0), Caller("al", 0)
        one.wish(SET)
        one.take_told(told(1, 2))
        self.has(other, "al", 0, False, None, 0, [])


class Wishes(WholeCaller):
    def test_while_it_does_not_wait(self):
        for deed in (SET, ADD, GET, ("set", "z", HUGE)):
            for keeper in (0, 8):
                caller = Caller("al", keeper)
                self.writes(caller.wish(deed), ("wish", "al", keeper, 1, deed))
                self.has(caller, "al", 1, True, deed, keeper, [])

    def test_while_it_waits(self):
        caller = self.waiting()
        for deed in (ADD, GET, SET):
            self.writes(caller.wish(deed))
            self.has(caller, "al", 1, True, SET, 0, [])

    def test_once_more_when_it_was_told(self):
        caller = self.waiting()
        for number, deed in ((2, ADD), (3, GET), (4, GET), (5, SET)):
            caller.take_told(told(number - 1, number))
            self.writes(caller.wish(deed), ("wish", "al", 0, number, deed))
            self.has(caller, "al", number, True, deed, 0, [(old, old + 1) for old in range(1, number)])


class SaysAgain(WholeCaller):
    def test_while_it_waits(self):
        caller = self.waiting(ADD, 4)
        for again in range(3):
            self.writes(caller.again(), ("wish", "al", 4, 1, ADD))
            self.has(caller, "al", 1, True, ADD, 4, [])

    def test_while_it_does_not_wait(self):
        caller = Caller("al", 2)
        self.writes(caller.again())
        self.has(caller, "al", 0, False, None, 2, [])
        caller.wish(SET)
        caller.take_told(told(1, 7))
        self.writes(caller.again())
        self.has(caller, "al", 1, False, SET, 2, [(1, 7)])

    def test_to_the_one_that_it_asks_then(self):
        caller = self.waiting(GET)
        caller.take_away(away(1, 6))
        self.writes(caller.again(), ("wish", "al", 6, 1, GET))


class TakesTold(WholeCaller):
    def takes(self, caller, letter):
        self.assertIsNone(caller.take_told(letter))

    def test_of_its_number(self):
        for answer in (0, -1, 7, HUGE, -HUGE):
            caller = self.waiting()
            self.takes(caller, told(1, answer))
            self.has(caller, "al", 1, False, SET, 0, [(1, answer)])

    def test_one_less_and_one_more(self):
        caller = self.waiting()
        for number in (2, 3, HUGE):
            self.takes(caller, told(number, 9))
            self.has(caller, "al", 1, True, SET, 0, [])
        self.takes(caller, told(1, 9))
        caller.wish(GET)
        for number in (1, 3, 4):
            self.takes(caller, told(number, 8))
            self.has(caller, "al", 2, True, GET, 0, [(1, 9)])
        self.takes(caller, told(2, 8))
        self.has(caller, "al", 2, False, GET, 0, [(1, 9), (2, 8)])

    def test_the_same_one_twice(self):
        caller = self.waiting()
        for again in range(3):
            self.takes(caller, told(1, 5))
            self.has(caller, "al", 1, False, SET, 0, [(1, 5)])
        self.takes(caller, told(1, 6))
        self.has(caller, "al", 1, False, SET, 0, [(1, 5)])

    def test_while_it_does_not_wait(self):
        caller = Caller("al", 3)
        for number in (1, 2):
            self.takes(caller, told(number, 5))
            self.has(caller, "al", 0, False, None, 3, [])

    def test_whoever_tells_it_asks_the_same_one(self):
        caller = self.waiting(SET, 2)
        self.takes(caller, told(1, 5, one=7))
        self.has(caller, "al", 1, False, SET, 2, [(1, 5)])

    def test_the_list_as_it_was_read_ahead_stays(self):
        caller = self.waiting()
        lists = [caller.told]
        for number in (1, 2, 3):
            self.takes(caller, told(number, -number))
            lists.append(caller.told)
            caller.wish(GET)
        self.assertEqual(lists, [[], [(1, -1)], [(1, -1), (2, -2)], [(1, -1), (2, -2), (3, -3)]])
        self.assertTrue(all(one is not other for one, other in itertools.combinations(lists, 2)))

    def test_a_list_that_was_read_ahead_and_spoilt_is_not_the_one_behind(self):
        caller = self.waiting()
        ahead = caller.told
        self.takes(caller, told(1, 4))
        ahead.append("spoilt")
        self.assertEqual(caller.told, [(1, 4)])


class TakesAway(WholeCaller):
    def takes(self, caller, letter):
        self.assertIsNone(caller.take_away(letter))

    def test_with_a_keeper(self):
        for head in range(9):
            caller = self.waiting(SET, 4)
            self.takes(caller, away(1, head))
            self.has(caller, "al", 1, True, SET, head, [])

    def test_with_none(self):
        for keeper in (0, 4):
            caller = self.waiting(SET, keeper)
            self.takes(caller, away(1, None))
            self.has(caller, "al", 1, True, SET, keeper, [])

    def test_whatever_the_number_and_whether_it_waits_or_not(self):
        for number in (1, 2, 9):
            for caller in (Caller("al", 4), self.waiting(SET, 4)):
                self.takes(caller, away(number, 0))
                self.assertEqual(caller.asks, 0)
                self.takes(caller, away(number, None))
                self.assertEqual(caller.asks, 0)

    def test_the_next_wish_goes_to_that_one(self):
        caller = Caller("al", 4)
        self.takes(caller, away(1, 7))
        self.writes(caller.wish(ADD), ("wish", "al", 7, 1, ADD))


class Lists(WholeCaller):
    def test_lists_that_are_given_are_new_ones(self):
        caller = Caller("al", 0)
        letters = caller.wish(SET)
        again = caller.again()
        letters.append("spoilt")
        self.assertEqual(again, [("wish", "al", 0, 1, SET)])
        again.clear()
        self.assertEqual(caller.again(), [("wish", "al", 0, 1, SET)])
        nothing = caller.wish(GET)
        nothing.append("spoilt")
        self.assertEqual(caller.wish(GET), [])
        caller.take_told(told(1, 3))
        nothing = caller.again()
        nothing.append("spoilt")
        self.assertEqual(caller.again(), [])


if __name__ == "__main__":
    unittest.main()
