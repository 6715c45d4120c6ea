import copy
import unittest

from keeplog.things import is_deed, is_entry, is_letter, is_name, is_pack, is_seats, is_store, is_what
from tests.samples import FIVE, LETTERS, OPEN, SIXTY_ONE, STORE, deep, spoilt, with_part

TELLERS = [is_name, is_deed, is_what, is_entry, is_seats, is_store, is_pack, is_letter]

DEEDS = [("set", "a", 0), ("set", "abcdefgh", -1), ("add", "z", SIXTY_ONE), ("add", "set", -SIXTY_ONE), ("get", "get")]
WHATS = [OPEN, ("seats", (0,)), ("seats", tuple(range(9)))] + [("wish", "bob", 1, deed) for deed in DEEDS]
ENTRIES = [(1, what) for what in WHATS] + [(SIXTY_ONE, OPEN)]
SEATS = [(0,), (8,), (0, 8), (3, 5, 6), tuple(range(9))]
STORES = [
    ((), ()),
    STORE,
    (STORE[0], ()),
    ((), STORE[1]),
    ((("a", SIXTY_ONE),), (("a", SIXTY_ONE, -SIXTY_ONE),)),
    ((("a", 0), ("aa", 0), ("ab", 0), ("b", 0), ("ba", 0)), ()),
]
PACKS = [(0, 0, (0,), ((), ())), (1, 1, (0, 1), STORE), (SIXTY_ONE, 1, (8,), STORE), (1, SIXTY_ONE, (8,), STORE)]

STRAY = [None, True, False, 0, 1, -1, 8, "", "a", "open", "ask", (), [], ((),), [[]], (None,), ("",), ("open", ())]


class Telling(unittest.TestCase):
    def tells(self, teller, goods, bads):
        for good in goods:
            with self.subTest(good=good):
                self.assertIs(teller(good), True)
        for bad in bads:
            with self.subTest(bad=bad):
                self.assertIs(teller(bad), False)

    def tells_spoilt(self, teller, goods):
        for good in goods:
            self.tells(teller, [good], spoilt(good))

    def test_names(self):
        self.tells(is_name, ["a", "z", "m", "ab", "abcdefgh", "zzzzzzzz", "open", "none"], [
            "", "abcdefghi", "A", "Z", "aB", "a1", "1", "a b", " a", "a ", "a\n", "a_", "-", "`", "{", "@", "a{", "a`",
            "a" * 10000, None, True, 0, 1, ("a",), ["a"], ("a", "b"), (),
        ])

    def test_deeds(self):
        self.tells(is_deed, DEEDS, [
            ("set", "a"), ("add", "a"), ("get", "a", 0), ("set", "a", 0, 0), ("get",), ("set",), (), ("sot", "a", 0),
            ("set", "A", 0), ("add", "", 0), ("get", "abcdefghi"), ("set", 0, "a"), ("set", "a", None), ("set", "a", "0"),
            ("set", "a", True), ("add", "a", False), ["get", "a"], ("open",), ("get", None), ("SET", "a", 0), "get",
            (("get",), "a"), (["get"], "a"), (1, "a"), (None, "a"), ("set", "a", (0,)), ("", "a"),
        ])
        self.tells_spoilt(is_deed, DEEDS)

    def test_whats(self):
        self.tells(is_what, WHATS, [
            ("open", 0), ("open", None), ["open"], "open", (), ("opened",), ("seats",), ("seats", ()), ("seats", (1, 0)),
            ("seats", 0), ("seats", (0,), (1,)), ("seats", 0, 1), ("wish", "bob", 0, ("get", "a")),
            ("wish", "bob", -1, ("get", "a")), ("wish", "bob", True, ("get", "a")), ("wish", "Bob", 1, ("get", "a")),
            ("wish", "bob", 1, ("get",)), ("wish", "bob", 1), ("wish", "bob", 1, ("get", "a"), 0), ("wish", 0, 1, ("get", "a")),
            ("wish", "bob", 1, None), ("get", "a"), ("wish", "bob", 1, OPEN),
        ])
        self.tells_spoilt(is_what, WHATS)

    def test_entries(self):
        self.tells(is_entry, ENTRIES, [
            (0, OPEN), (-1, OPEN), (True, OPEN), ("1", OPEN), (None, OPEN), (1,), (1, OPEN, OPEN), (), OPEN, (1, "open"),
            (1, None), [1, OPEN], (1, ["open"]), (OPEN, 1), (1, ()), (1, ("seats", (9,))), (1, (1, OPEN)),
        ])
        self.tells_spoilt(is_entry, ENTRIES)

    def test_seats(self):
        self.tells(is_seats, SEATS, [
            (), (9,), (-1,), (0, 9), tuple(range(10)), (1, 0), (0, 0), (1, 1), (0, 1, 1), (0, 2, 1), (1, 2, 0),
            (True,), (False,), (0, True), (False, 1), ("0",), (None,), (0, None), ((0,),), [0], [0, 1], 0, None, "0",
            (0, SIXTY_ONE), tuple(range(-1, 8)), ("a", "b"), (0, "a"),
        ])
        self.tells_spoilt(is_seats, SEATS)

    def test_stores(self):
        def named(*names):
            return (tuple((name, 1) for name in names), ())

        def called(*callers):
            return ((), tuple((caller, 1, 1) for caller in callers))

        self.tells(is_store, STORES + [named("a", "b"), called("a", "b"), (named("a")[0], called("a")[1])], [
            (), ((),), ((), (), ()), [(), ()], ([], ()), ((), []), (None, ()), ((), None), None, "", (0, 0),
            named("b", "a"), named("a", "a"), named("ab", "a"), named("b", "ab"), named("a", "c", "b"), named("a", "b", "b"),
            called("b", "a"), called("a", "a"), called("ab", "a"), called("a", "c", "b"), called("a", "b", "b"),
            named(""), named("A"), called("abcdefghi"), called("a1"), named(1), called(None),
            ((("a",),), ()), ((("a", 1, 1),), ()), ((), (("a", 1),)), ((), (("a", 1, 1, 1),)),
            ((("a", None),), ()), ((("a", True),), ()), ((("a", "1"),), ()), ((["a", 1],), ()),
            ((), (("a", 0, 1),)), ((), (("a", -1, 1),)), ((), (("a", True, 1),)), ((), (("a", 1, False),)),
            ((), (("a", 1, None),)), ((), (["a", 1, 1],)), (("a", 1), ()), ((), ("a", 1, 1)), ("ab", ()),
            (called("a")[1], named("a")[0]),
        ])
        self.tells_spoilt(is_store, STORES)

    def test_packs(self):
        bare = ((), ())
        self.tells(is_pack, PACKS, [
            (0, 1, (0,), bare), (1, 0, (0,), bare), (-1, -1, (0,), bare), (-1, 1, (0,), bare), (1, -1, (0,), bare),
            (0, -1, (0,), bare), (-1, 0, (0,), bare),
            (1, 1, (), bare), (1, 1, (1, 0), bare), (1, 1, (9,), bare), (1, 1, 0, bare), (1, 1, (0,), ()), (1, 1, (0,), None),
            (1, 1, (0,)), (1, 1, (0,), bare, 0), (), None, [1, 1, (0,), bare], (True, 1, (0,), bare), (1, True, (0,), bare),
            (False, 0, (0,), bare), (0, False, (0,), bare), (None, 0, (0,), bare), ("1", "1", (0,), bare),
            (1, 1, [0], bare), (1, 1, (0,), [(), ()]), (1, 1, (0,), ((("b", 1), ("a", 1)), ())),
        ])
        self.tells_spoilt(is_pack, PACKS)

    def test_letters(self):
        letters = [letter for letter, text in LETTERS]
        self.tells(is_letter, letters, [])
        self.tells_spoilt(is_letter, letters)
        for letter in letters:
            self.tells(is_letter, [], [
                letter[:-1], letter + (0,), letter + (None,), letter[1:], list(letter), (letter,), with_part(letter, 0, "asks"),
                with_part(letter, 0, ""), with_part(letter, 0, letter[0].upper()), with_part(letter, 0, None),
            ])

    def test_letters_of_numbers_of_any_size(self):
        self.tells(is_letter, [
            ("ask", 0, 1, SIXTY_ONE, SIXTY_ONE, SIXTY_ONE), ("held", 0, 1, SIXTY_ONE, True, SIXTY_ONE),
            ("hand", 0, 1, SIXTY_ONE, SIXTY_ONE, 1, (), SIXTY_ONE), ("told", 0, "a", SIXTY_ONE, -SIXTY_ONE),
            ("wish", "a", 0, SIXTY_ONE, ("add", "a", SIXTY_ONE)), ("away", 0, "a", SIXTY_ONE, None),
        ], [])

    def test_one_and_other_are_unlike_keepers(self):
        for letter, text in LETTERS:
            if letter[0] in ("ask", "voice", "hand", "pack", "held"):
                for one in range(-2, 11):
                    for other in range(-2, 11):
                        good = 0 <= one <= 8 and 0 <= other <= 8 and one != other
                        self.assertIs(is_letter((letter[0], one, other) + letter[3:]), good)
                for stray in (None, True, "a", "0", (0,)):
                    self.tells(is_letter, [], [with_part(letter, 1, stray), with_part(letter, 2, stray)])

    def test_the_keeper_of_a_callers_letter(self):
        for keeper in range(-2, 11):
            good = 0 <= keeper <= 8
            self.assertIs(is_letter(("wish", "a", keeper, 1, ("get", "a"))), good)
            self.assertIs(is_letter(("told", keeper, "a", 1, 0)), good)
            self.assertIs(is_letter(("away", keeper, "a", 1, 0)), good)
            self.assertIs(is_letter(("away", 0, "a", 1, keeper)), good)
        for stray in (None, True, False, "b", "0", (0,)):
            self.tells(is_letter, [], [
                ("wish", "a", stray, 1, ("get", "a")), ("told", stray, "a", 1, 0), ("away", stray, "a", 1, 0),
            ])

    def test_the_caller_of_a_letter(self):
        for caller in ("", "A", "abcdefghi", "a1", 0, 1, None, ("a",)):
            self.tells(is_letter, [], [
                ("wish", caller, 0, 1, ("get", "a")), ("told", 0, caller, 1, 0), ("away", 0, caller, 1, None),
            ])

    def test_terms_and_numbers_are_from_one_on(self):
        for letter, text in LETTERS:
            self.tells(is_letter, [with_part(letter, 3, 1)], [with_part(letter, 3, bad) for bad in (0, -1, True, None, "1")])

    def test_last_is_nought_where_place_is_and_there_alone(self):
        for place in range(-2, 4):
            for last in range(-2, 4):
                good = place >= 0 and last >= 0 and (place == 0) == (last == 0)
                self.assertIs(is_letter(("ask", 0, 1, 1, place, last)), good)
                self.assertIs(is_letter(("hand", 0, 1, 1, place, last, (), 0)), good)
                self.assertIs(is_pack((place, last, (0,), STORE)), good)
                self.assertIs(is_letter(("pack", 0, 1, 1, (place, last, (0,), STORE))), good and place >= 1)

    def test_truths_of_letters(self):
        for bad in (0, 1, None, "yes", "no", "", (), (True,)):
            self.tells(is_letter, [], [("voice", 0, 1, 1, bad), ("held", 0, 1, 1, bad, 0)])

    def test_hands(self):
        def hand(entries, agreed=0):
            return ("hand", 0, 1, 1, 1, 1, entries, agreed)

        for many in range(6):
            self.assertIs(is_letter(hand(FIVE[:many])), True)
        self.tells(is_letter, [hand((FIVE[4], FIVE[0])), hand((), SIXTY_ONE), hand((FIVE[0],), 100)], [
            hand(FIVE + FIVE[:1]), hand(FIVE + FIVE), hand(FIVE * 100), hand(list(FIVE)), hand(None), hand(OPEN), hand(FIVE[0]),
            hand((OPEN,)), hand((list(FIVE[0]),)), hand((FIVE[0], (0, OPEN))), hand(((0, OPEN), FIVE[0])), hand((None,)),
            hand((), -1), hand((), None), hand((), False), ("hand", 0, 1, 1, 1, 1, 0, ()),
        ])

    def test_held_places_told_answers_and_heads(self):
        self.tells(is_letter, [("away", 3, "a", 1, 3), ("told", 3, "a", 1, -5)], [
            ("held", 0, 1, 1, True, -1), ("held", 0, 1, 1, True, None), ("held", 0, 1, 1, 0, True),
            ("told", 0, "a", 1, None), ("told", 0, "a", 1, "1"), ("told", 0, "a", 1, True),
            ("away", 0, "a", 1, "none"), ("away", 0, "a", 1, False), ("away", 0, "a", 1, ()), ("away", 0, "a", 1, "a"),
            ("wish", "a", 0, 1, ("open",)), ("wish", "a", 0, 1, None), ("wish", 0, "a", 1, ("get", "a")),
            ("told", "a", 0, 1, 0), ("away", "a", 0, 1, None),
        ])

    def test_stray_things_are_none(self):
        for stray in STRAY:
            for teller in TELLERS:
                if not (teller == is_name and stray in ("a", "open", "ask")):
                    self.tells(teller, [], [stray])

    def test_each_thing_is_told_by_its_own_teller_alone(self):
        ones = {is_name: "a", is_deed: DEEDS[0], is_what: WHATS[0], is_entry: ENTRIES[0], is_seats: SEATS[0],
                is_store: STORES[0], is_pack: PACKS[0], is_letter: LETTERS[0][0]}
        for teller in TELLERS:
            for other in TELLERS:
                self.assertIs(teller(ones[other]), teller == other)

    def test_things_however_deep(self):
        for make in (tuple, list):
            thing = deep(make, 200000)
            shapes = [thing, (thing,), (thing, thing), ("open", thing), ("get", thing), ("set", thing, thing), (1, thing),
                      (thing, ()), ((), thing), ((thing,), ()), (((thing, 1),), ()), (0, 0, thing, thing), (0, thing, thing),
                      ("seats", thing), ("seats", (thing,)), ("wish", "a", 1, thing), (thing, "a"), (thing, 1, 1, thing)]
            for letter, text in LETTERS:
                shapes = shapes + [with_part(letter, at, thing) for at in range(len(letter))]
            for shape in shapes:
                for teller in TELLERS:
                    self.assertTrue(teller(shape) is False)

    def test_nothing_that_is_handed_in_is_changed(self):
        for thing in [["set", "a", 1], [0, 1], [1, ["open"]], ("hand", 0, 1, 1, 0, 0, [[1, OPEN]], 0), ([["a", 1]], [])]:
            before = copy.deepcopy(thing)
            for teller in TELLERS:
                teller(thing)
            self.assertEqual(thing, before)


if __name__ == "__main__":
    unittest.main()
