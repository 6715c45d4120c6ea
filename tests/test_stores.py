import itertools
import unittest

from keeplog.stores import answer_of, applied, done, fresh, number_of, replayed, value_of
from keeplog.things import is_store
from tests.samples import HUGE, OPEN

NAMES = (("b", 4), ("d", -3), ("f", 0))
CALLERS = (("bea", 2, 10), ("dan", 7, 0), ("fay", HUGE, -5))
STORE = (NAMES, CALLERS)
WORDS = ("add", "get", "set", "open", "wish", "seats", "told", "none", "yes")


def wish(caller, number, deed):
    return ("wish", caller, number, deed)


class Slow:
    """A store as two dicts, done as the document tells it."""

    def __init__(self):
        self.names, self.callers = {}, {}

    def answer(self, deed):
        ahead = self.names.get(deed[1], 0)
        if deed[0] == "set":
            self.names[deed[1]] = deed[2]
        if deed[0] == "add":
            self.names[deed[1]] = ahead + deed[2]
            return ahead + deed[2]
        return ahead

    def apply(self, what):
        if what[0] == "wish" and what[2] > self.callers.get(what[1], (0, 0))[0]:
            self.callers[what[1]] = (what[2], self.answer(what[3]))

    def store(self):
        return (tuple(sorted(self.names.items())), tuple((caller,) + pair for caller, pair in sorted(self.callers.items())))


class Values(unittest.TestCase):
    def test_the_fresh_store(self):
        self.assertEqual(fresh(), ((), ()))
        self.assertTrue(is_store(fresh()))

    def test_a_name_that_stands(self):
        self.assertEqual([value_of(STORE, name) for name in "bdf"], [4, -3, 0])

    def test_a_name_that_does_not(self):
        for name in ("a", "c", "e", "g", "bb", "abcdefgh"):
            self.assertEqual(value_of(STORE, name), 0)
        self.assertEqual(value_of(fresh(), "b"), 0)

    def test_callers_are_no_names(self):
        self.assertEqual(value_of(STORE, "bea"), 0)
        self.assertEqual(value_of((NAMES, (("d", 9, 9),)), "d"), -3)

    def test_values_of_any_size(self):
        self.assertEqual(value_of(((("x", -HUGE),), ()), "x"), -HUGE)


class Done(unittest.TestCase):
    def gives(self, store, deed, names, answer):
        given = done(store, deed)
        self.assertEqual(given, ((names, store[1]), answer))
        self.assertIsInstance(given, tuple)
        self.assertTrue(is_store(given[0]))

    def test_set_of_a_name_that_stands_answers_the_value_ahead(self):
        self.gives(STORE, ("set", "b", 9), (("b", 9), ("d", -3), ("f", 0)), 4)
        self.gives(STORE, ("set", "d", -9), (("b", 4), ("d", -9), ("f", 0)), -3)
        self.gives(STORE, ("set", "f", 1), (("b", 4), ("d", -3), ("f", 1)), 0)
        self.gives(STORE, ("set", "b", 4), NAMES, 4)

    def test_set_of_a_name_that_does_not(self):
        self.gives(STORE, ("set", "a", 9), (("a", 9),) + NAMES, 0)
        self.gives(STORE, ("set", "c", 9), NAMES[:1] + (("c", 9),) + NAMES[1:], 0)
        self.gives(STORE, ("set", "g", 9), NAMES + (("g", 9),), 0)
        self.gives(fresh(), ("set", "x", -1), (("x", -1),), 0)

    def test_add_answers_both_together(self):
        self.gives(STORE, ("add", "b", 9), (("b", 13), ("d", -3), ("f", 0)), 13)
        self.gives(STORE, ("add", "d", 3), (("b", 4), ("d", 0), ("f", 0)), 0)
        self.gives(STORE, ("add", "d", -3), (("b", 4), ("d", -6), ("f", 0)), -6)
        self.gives(STORE, ("add", "f", -7), (("b", 4), ("d", -3), ("f", -7)), -7)

    def test_add_to_a_name_that_does_not_stand(self):
        self.gives(STORE, ("add", "a", -9), (("a", -9),) + NAMES, -9)
        self.gives(STORE, ("add", "e", 9), NAMES[:2] + (("e", 9),) + NAMES[2:], 9)
        self.gives(STORE, ("add", "g", 9), NAMES + (("g", 9),), 9)
        self.gives(fresh(), ("add", "x", 5), (("x", 5),), 5)

    def test_get_changes_nothing(self):
        for name, value in (("b", 4), ("d", -3), ("f", 0), ("a", 0), ("c", 0), ("zz", 0)):
            self.gives(STORE, ("get", name), NAMES, value)
        self.gives(fresh(), ("get", "x"), (), 0)

    def test_the_value_0_makes_a_name_stand(self):
        for word in ("set", "add"):
            self.gives(fresh(), (word, "x", 0), (("x", 0),), 0)
            self.gives(STORE, (word, "c", 0), NAMES[:1] + (("c", 0),) + NAMES[1:], 0)
        self.gives(STORE, ("set", "b", 0), (("b", 0),) + NAMES[1:], 4)
        self.gives(STORE, ("add", "b", 0), NAMES, 4)
        self.gives(STORE, ("add", "b", -4), (("b", 0),) + NAMES[1:], 0)

    def test_values_of_any_size(self):
        self.gives(fresh(), ("set", "x", -HUGE), (("x", -HUGE),), 0)
        self.gives(((("x", HUGE),), ()), ("set", "x", 1), (("x", 1),), HUGE)
        self.gives(((("x", HUGE),), ()), ("add", "x", HUGE), (("x", 2 * HUGE),), 2 * HUGE)
        self.gives(((("x", HUGE),), ()), ("add", "x", -HUGE - 1), (("x", -1),), -1)

    def test_names_by_the_alphabet_in_whatever_order_they_come(self):
        for order in itertools.permutations(("b", "a", "ab", "abc", "ba", "b")):
            store = fresh()
            for name in order:
                store = done(store, ("add", name, 1))[0]
            self.assertEqual(store[0], (("a", 1), ("ab", 1), ("abc", 1), ("b", 2), ("ba", 1)))

    def test_names_that_are_words(self):
        store = fresh()
        for word in WORDS:
            store = done(store, ("set", word, len(word)))[0]
        self.assertEqual(store[0], tuple((word, len(word)) for word in sorted(WORDS)))
        for word in WORDS:
            self.assertEqual(done(store, ("set", word, 5))[1], len(word))
            self.assertEqual(done(store, ("add", word, 5))[1], len(word) + 5)
            self.assertEqual(done(store, ("get", word)), (store, len(word)))

    def test_the_callers_stay_though_called_alike(self):
        self.gives(STORE, ("set", "bea", 1), (("b", 4), ("bea", 1), ("d", -3), ("f", 0)), 0)


class Callers(unittest.TestCase):
    def test_numbers(self):
        self.assertEqual([number_of(STORE, caller) for caller in ("bea", "dan", "fay")], [2, 7, HUGE])
        for caller in ("al", "be", "beab", "zoe", "b", "d"):
            self.assertEqual(number_of(STORE, caller), 0)
        self.assertEqual(number_of(fresh(), "bea"), 0)

    def test_the_answer_to_the_number_that_stands(self):
        self.assertEqual(answer_of(STORE, "bea", 2), 10)
        self.assertEqual(answer_of(STORE, "dan", 7), 0)
        self.assertEqual(answer_of(STORE, "fay", HUGE), -5)

    def test_no_answer_to_another(self):
        for caller, number in (("bea", 1), ("bea", 3), ("bea", 0), ("dan", 6), ("dan", 8), ("dan", 0), ("fay", HUGE - 1),
                               ("fay", HUGE + 1), ("fay", 0), ("bea", 10), ("bea", -2)):
            self.assertIsNone(answer_of(STORE, caller, number))

    def test_no_answer_where_the_caller_does_not_stand(self):
        for number in (0, 1, 2, 4):
            self.assertIsNone(answer_of(STORE, "al", number))
            self.assertIsNone(answer_of(STORE, "b", number))
            self.assertIsNone(answer_of(fresh(), "bea", number))


class Applied(unittest.TestCase):
    def gives(self, store, what, names, callers):
        given = applied(store, what)
        self.assertEqual(given, (names, callers))
        self.assertTrue(is_store(given))

    def test_a_greater_number(self):
        for number in (3, 4, 50, HUGE):
            self.gives(STORE, wish("bea", number, ("set", "b", 9)), (("b", 9),) + NAMES[1:],
                       (("bea", number, 4),) + CALLERS[1:])
        self.gives(STORE, wish("dan", 8, ("add", "b", 9)), (("b", 13),) + NAMES[1:],
                   (CALLERS[0], ("dan", 8, 13), CALLERS[2]))

    def test_the_same_and_a_lesser_one(self):
        for caller, number in (("bea", 2), ("bea", 1), ("dan", 7), ("dan", 6), ("dan", 1), ("fay", HUGE), ("fay", 1)):
            for deed in (("set", "b", 9), ("add", "b", 9), ("get", "b"), ("set", "new", 1)):
                self.gives(STORE, wish(caller, number, deed), NAMES, CALLERS)

    def test_a_caller_that_does_not_stand(self):
        for number in (1, 2, HUGE):
            self.gives(STORE, wish("al", number, ("get", "d")), NAMES, (("al", number, -3),) + CALLERS)
            self.gives(STORE, wish("cy", number, ("get", "d")), NAMES, CALLERS[:1] + (("cy", number, -3),) + CALLERS[1:])
            self.gives(STORE, wish("zoe", number, ("get", "no")), NAMES, CALLERS + (("zoe", number, 0),))
        self.gives(fresh(), wish("al", 1, ("set", "al", 2)), (("al", 2),), (("al", 1, 0),))

    def test_the_answer_is_the_deeds(self):
        store = applied(fresh(), wish("al", 1, ("add", "x", -5)))
        self.assertEqual(answer_of(store, "al", 1), -5)
        store = applied(store, wish("al", 2, ("set", "x", 7)))
        self.assertEqual((answer_of(store, "al", 2), answer_of(store, "al", 1)), (-5, None))
        store = applied(store, wish("al", 5, ("get", "x")))
        self.assertEqual((answer_of(store, "al", 5), number_of(store, "al")), (7, 5))

    def test_open_and_seats_change_nothing(self):
        for what in (OPEN, ("seats", (0,)), ("seats", (0, 1, 2))):
            self.gives(STORE, what, NAMES, CALLERS)
            self.gives(fresh(), what, (), ())

    def test_callers_by_the_alphabet_in_whatever_order_they_come(self):
        for order in itertools.permutations(("open", "seats", "wish", "a", "ab")):
            store = fresh()
            for number, caller in enumerate(order, start=1):
                store = applied(store, wish(caller, number, ("add", "x", 1)))
            self.assertEqual(store, ((("x", 5),), tuple(sorted((caller, at, at) for at, caller in enumerate(order, start=1)))))


class Replayed(unittest.TestCase):
    FIRST = (1, wish("al", 1, ("add", "x", 2)))
    SECOND = (2, wish("bea", 4, ("set", "x", 3)))
    THIRD = (2, wish("al", 2, ("get", "x")))

    def test_no_entries(self):
        self.assertEqual(replayed(STORE, ()), STORE)
        self.assertEqual(replayed(fresh(), ()), fresh())

    def test_one(self):
        self.assertEqual(replayed(fresh(), (self.FIRST,)), ((("x", 2),), (("al", 1, 2),)))
        self.assertEqual(replayed(STORE, ((9, OPEN),)), STORE)

    def test_several_one_behind_the_other(self):
        entries = (self.FIRST, (2, OPEN), self.SECOND, (2, ("seats", (0,))), self.THIRD)
        self.assertEqual(replayed(fresh(), entries), ((("x", 3),), (("al", 2, 3), ("bea", 4, 2))))
        self.assertEqual(replayed(fresh(), entries[::-1]), ((("x", 3),), (("al", 2, 0), ("bea", 4, 0))))

    def test_the_same_wish_twice_among_them(self):
        twice = (self.FIRST, self.FIRST)
        self.assertEqual(replayed(fresh(), twice), replayed(fresh(), twice[:1]))
        later = (self.FIRST, self.SECOND, (3, self.FIRST[1]), self.THIRD, self.FIRST)
        self.assertEqual(replayed(fresh(), later), replayed(fresh(), (self.FIRST, self.SECOND, self.THIRD)))

    def test_from_a_store_that_has_some_already(self):
        entries = (self.FIRST, self.SECOND, self.THIRD)
        for many in range(4):
            self.assertEqual(replayed(replayed(fresh(), entries[:many]), entries[many:]), replayed(fresh(), entries))

    def test_all_few_wishes_against_a_slow_store(self):
        deeds = (("set", "b", 3), ("add", "a", -2), ("add", "b", 0), ("get", "b"))
        whats = [wish(caller, number, deed) for caller in ("b", "a") for number in (1, 2) for deed in deeds]
        whats += [OPEN, ("seats", (1, 2))]
        for some in itertools.product(whats, repeat=3):
            slow = Slow()
            for what in some:
                slow.apply(what)
            self.assertEqual(replayed(fresh(), tuple((1, what) for what in some)), slow.store())


class NothingIsChanged(unittest.TestCase):
    def test_the_store_that_was_handed_in_is_as_it_was(self):
        store = (tuple(NAMES), tuple(CALLERS))
        for deed in (("set", "b", 1), ("set", "c", 1), ("add", "b", 1), ("add", "c", 1), ("get", "b"), ("get", "c")):
            done(store, deed)
            applied(store, wish("bea", 3, deed))
            replayed(store, ((1, wish("al", 1, deed)), (1, wish("al", 2, deed))))
        self.assertEqual(store, (NAMES, CALLERS))
        self.assertEqual(fresh(), ((), ()))

    def test_stores_that_are_given_are_tuples(self):
        for given in (fresh(), done(STORE, ("set", "a", 1))[0], done(STORE, ("get", "a"))[0],
                      applied(STORE, wish("al", 1, ("add", "a", 1))), replayed(STORE, ((1, wish("al", 1, ("add", "a", 1))),))):
            self.assertTrue(is_store(given))

    def test_entries_may_come_in_a_list_which_stays(self):
        entries = [Replayed.FIRST, Replayed.SECOND]
        self.assertEqual(replayed(fresh(), entries), replayed(fresh(), tuple(entries)))
        self.assertEqual(entries, [Replayed.FIRST, Replayed.SECOND])


if __name__ == "__main__":
    unittest.main()
