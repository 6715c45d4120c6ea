import unittest

from keeplog.errors import LogError, NoPlace
from keeplog.roads import Road
from tests.samples import HUGE, LETTERS

SOME = [letter for letter, text in LETTERS[:5]]


def road_of(letters):
    road = Road()
    road.put(letters)
    return road


class Put(unittest.TestCase):
    def test_a_new_road_is_empty(self):
        road = Road()
        self.assertEqual(road.waiting(), [])
        self.assertIsInstance(road.waiting(), list)

    def test_in_one_go(self):
        road = Road()
        self.assertIsNone(road.put(list(SOME)))
        self.assertEqual(road.waiting(), SOME)

    def test_one_by_one(self):
        road = Road()
        for many, letter in enumerate(SOME, start=1):
            self.assertIsNone(road.put([letter]))
            self.assertEqual(road.waiting(), SOME[:many])

    def test_in_two_goes_and_none_at_all(self):
        for many in range(len(SOME) + 1):
            road = road_of(SOME[:many])
            road.put([])
            road.put(SOME[many:])
            self.assertEqual(road.waiting(), SOME)

    def test_the_same_letter_more_than_once(self):
        road = road_of([SOME[0], SOME[1], SOME[0]])
        road.put([SOME[0]])
        self.assertEqual(road.waiting(), [SOME[0], SOME[1], SOME[0], SOME[0]])

    def test_letters_of_each_kind_and_with_long_numbers(self):
        letters = [letter for letter, text in LETTERS] + [("told", 0, "al", 1, -HUGE * HUGE)]
        self.assertEqual(road_of(letters).waiting(), letters)

    def test_the_list_handed_in_changed_behind_it(self):
        letters = list(SOME)
        road = Road()
        road.put(letters)
        letters.append("spoilt")
        letters[0] = "spoilt"
        self.assertEqual(road.waiting(), SOME)
        letters.clear()
        self.assertEqual(road.waiting(), SOME)

    def test_the_list_handed_in_is_not_changed(self):
        letters = list(SOME)
        road = Road()
        road.put(letters)
        road.put(letters)
        road.take(0)
        self.assertEqual(letters, SOME)
        self.assertEqual(road.waiting(), SOME[1:] + SOME)

    def test_two_roads_share_nothing(self):
        one, other = Road(), Road()
        one.put(SOME)
        self.assertEqual(other.waiting(), [])


class LookAndTake(unittest.TestCase):
    def test_looked_at_it_stays(self):
        road = road_of(SOME)
        for at, letter in enumerate(SOME):
            for again in range(2):
                self.assertEqual(road.look(at), letter)
        self.assertEqual(road.waiting(), SOME)

    def test_taken_those_behind_it_are_one_place_ahead(self):
        for at, letter in enumerate(SOME):
            road = road_of(SOME)
            self.assertEqual(road.take(at), letter)
            left = SOME[:at] + SOME[at + 1:]
            self.assertEqual(road.waiting(), left)
            self.assertEqual([road.look(place) for place in range(4)], left)

    def test_taken_one_by_one(self):
        road = road_of(SOME)
        self.assertEqual([road.take(at) for at in (2, 0, 2, 0, 0)], [SOME[at] for at in (2, 0, 4, 1, 3)])
        self.assertEqual(road.waiting(), [])

    def test_of_letters_that_are_the_same_only_one_goes(self):
        for at in range(3):
            letters = [SOME[0], SOME[0], SOME[0], SOME[1]]
            road = road_of(letters)
            road.take(at)
            self.assertEqual(road.waiting(), letters[1:])
        road = road_of([SOME[0], SOME[1], SOME[0]])
        road.take(2)
        self.assertEqual(road.waiting(), SOME[:2])

    def test_put_behind_taking(self):
        road = road_of(SOME[:2])
        road.take(0)
        road.put(SOME[2:4])
        self.assertEqual(road.waiting(), SOME[1:4])

    def test_places_that_it_does_not_have(self):
        for many in range(len(SOME) + 1):
            road = road_of(SOME[:many])
            for at in (many, many + 1, HUGE, -1, -2, -many, -many - 1, -HUGE):
                if not 0 <= at < many:
                    for ask in (road.look, road.take):
                        with self.assertRaises(NoPlace) as caught:
                            ask(at)
                        self.assertIsInstance(caught.exception, LogError)
                        self.assertEqual(road.waiting(), SOME[:many])

    def test_the_last_place_is_gone_behind_taking(self):
        road = road_of(SOME[:2])
        road.take(0)
        with self.assertRaises(NoPlace):
            road.look(1)
        road.take(0)
        with self.assertRaises(NoPlace):
            road.take(0)


class Waiting(unittest.TestCase):
    def test_the_list_given_changed_by_its_owner(self):
        road = road_of(SOME)
        given = road.waiting()
        given.append("spoilt")
        given[0] = "spoilt"
        self.assertEqual(road.waiting(), SOME)
        self.assertEqual(road.look(0), SOME[0])
        road.waiting().clear()
        self.assertEqual(road.waiting(), SOME)

    def test_the_list_given_stays_as_it_was(self):
        road = road_of(SOME[:3])
        given, none = road.waiting(), Road().waiting()
        road.put(SOME[3:])
        road.take(0)
        self.assertEqual((given, none), (SOME[:3], []))

    def test_given_and_put_again(self):
        road = road_of(SOME[:2])
        road.put(road.waiting())
        self.assertEqual(road.waiting(), SOME[:2] * 2)


if __name__ == "__main__":
    unittest.main()
