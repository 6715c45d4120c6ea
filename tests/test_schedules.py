import unittest

from keeplog.errors import LogError, NoLetter, NoSchedule
from keeplog.schedules import read_schedule, written_schedule
from tests.planning import ALL_DEEDS, EACH_DEED, SCHEDULES, chance_schedule
from tests.samples import HUGE, NINE, SIXTY, SIXTY_ONE, deep, some_seats, spoilt

ROOM = "room 3 0 1 2\n"
STAND = ("stand", 0)


def with_deeds(*deeds):
    return (3, (0, 1, 2), deeds)


class Both(unittest.TestCase):
    def writes(self, schedule, text):
        self.assertEqual(written_schedule(schedule), text)

    def reads(self, text, schedule):
        given = read_schedule(text)
        self.assertEqual(given, schedule)
        self.assertEqual(repr(given), repr(schedule))

    def is_refused(self, ask, thing):
        with self.assertRaises(NoSchedule) as caught:
            ask(thing)
        self.assertIsInstance(caught.exception, LogError)
        self.assertNotIsInstance(caught.exception, NoLetter)

    def writes_not(self, thing):
        self.is_refused(written_schedule, thing)

    def reads_not(self, text):
        self.is_refused(read_schedule, text)

    def goes_both_ways(self, schedule, text):
        self.writes(schedule, text)
        self.reads(text, schedule)


class WrittenAndRead(Both):
    def test_schedules(self):
        for schedule, text in SCHEDULES:
            with self.subTest(text=text):
                self.goes_both_ways(schedule, text)

    def test_without_deeds_it_is_its_first_row_alone(self):
        self.goes_both_ways((1, (0,), ()), "room 1 0\n")
        self.goes_both_ways((9, NINE, ()), "room 9 0 1 2 3 4 5 6 7 8\n")

    def test_rooms_of_each_size_with_all_seats(self):
        for count in range(1, 10):
            for seats in some_seats(count):
                row = " ".join(str(number) for number in (count,) + seats)
                self.goes_both_ways((count, seats, ()), f"room {row}\n")

    def test_all_seats_that_a_move_may_tell(self):
        deeds = [("move", seats[0], seats) for seats in some_seats(9)]
        for at in range(0, len(deeds), 200):
            part = tuple(deeds[at:at + 200])
            rows = "".join(" ".join(["move", str(k)] + [str(seat) for seat in seats]) + "\n" for word, k, seats in part)
            self.goes_both_ways((1, (0,), part), "room 1 0\n" + rows)

    def test_how_many_deeds_there_are(self):
        for many in (1, 2, 299, 300):
            self.goes_both_ways(with_deeds(*[STAND] * many), ROOM + "stand 0\n" * many)
        for many in (301, 302, 1000):
            self.writes_not(with_deeds(*[STAND] * many))
            self.reads_not(ROOM + "stand 0\n" * many)

    def test_numbers_that_the_room_has_not(self):
        for k in range(9):
            deeds = (("stand", k), ("beat", k, 8 - k), ("turn", "al", k), ("move", k, (k,)), ("pack", k, 1), ("wake", k))
            rows = f"stand {k}\nbeat {k} {8 - k}\nturn al {k}\nmove {k} {k}\npack {k} 1\nwake {k}\n"
            self.goes_both_ways((1, (0,), deeds), "room 1 0\n" + rows)

    def test_at_and_place_of_up_to_six_figures(self):
        for number in (0, 1, 9, 10, 300, 99999, 100000, 999999):
            deeds = (("bring", number), ("double", number), ("lose", number), ("pack", 0, number))
            rows = f"bring {number}\ndouble {number}\nlose {number}\npack 0 {number}\n"
            self.goes_both_ways(with_deeds(*deeds), ROOM + rows)
        for number in (10 ** 6, 10 ** 6 + 1, 1234567, 10 ** 59, SIXTY, HUGE, -1, -10):
            for deed in (("bring", number), ("double", number), ("lose", number), ("pack", 0, number)):
                self.writes_not(with_deeds(deed))
                self.reads_not(ROOM + " ".join(str(part) for part in deed) + "\n")

    def test_values_of_up_to_sixty_figures(self):
        for value in (0, 1, -1, 10, -10, SIXTY, -SIXTY):
            for word in ("set", "add"):
                self.goes_both_ways(with_deeds(("wish", "al", (word, "x", value))), f"{ROOM}wish al {word} x {value}\n")
        for value in (SIXTY_ONE, -SIXTY_ONE, SIXTY + 2, HUGE, -HUGE):
            for word in ("set", "add"):
                self.writes_not(with_deeds(("wish", "al", (word, "x", value))))
                self.writes_not(with_deeds(STAND, ("wish", "al", (word, "x", value)), STAND))
                self.reads_not(f"{ROOM}wish al {word} x {value}\n")

    def test_very_long_numbers(self):
        self.writes_not(with_deeds(("wish", "al", ("set", "x", 10 ** 3999))))
        self.reads_not(ROOM + "wish al set x " + "1" * 4000 + "\n")
        self.reads_not("room " + "1" * 4000 + " 0\n")

    def test_schedules_by_chance(self):
        for seed in range(60):
            schedule = chance_schedule(seed, 5 * seed)
            self.reads(written_schedule(schedule), schedule)

    def test_what_is_read_is_of_tuples(self):
        schedule = read_schedule(ROOM + "move 0 0 1\nwish al set x 1\n")
        self.assertIsInstance(schedule, tuple)
        for part in (schedule[1], schedule[2], schedule[2][0], schedule[2][0][2], schedule[2][1], schedule[2][1][2]):
            self.assertIsInstance(part, tuple)


class NoSchedules(Both):
    """What is no schedule, where it is to be written."""

    def test_schedules_spoilt_in_one_part(self):
        for schedule, text in SCHEDULES:
            if len(schedule[2]) < 2:
                for thing in spoilt(schedule):
                    self.writes_not(thing)
        for at, deed in enumerate(ALL_DEEDS):
            for thing in spoilt(deed):
                self.writes_not(with_deeds(*ALL_DEEDS[:at], thing, *ALL_DEEDS[at + 1:]))

    def test_a_part_too_few_or_too_many(self):
        for schedule, text in SCHEDULES[:8]:
            self.writes_not(schedule[:2])
            self.writes_not(schedule + ((),))
            self.writes_not(schedule[1:])
        for deed in ALL_DEEDS:
            for thing in (deed[:-1], deed + (0,), deed + ("al",), deed + ((0,),), deed[:1], deed[:1] + deed[2:]):
                if thing not in ALL_DEEDS:
                    self.writes_not(with_deeds(thing))
        for deed in ((), ("stand",), ("wish", "al"), ("wish", "al", "set", "x", 1), ("wish", "al", ("set", "x")), ("move", 0, 0, 1)):
            self.writes_not(with_deeds(deed))

    def test_counts(self):
        for count in (0, 10, -1, HUGE, True, False, None, "3", (3,), [3]):
            self.writes_not((count, (0,), ()))
        for count in range(9):
            self.writes_not((count, (count,), ()))
            self.writes_not((count, (0, 8), ()))

    def test_seats(self):
        for seats in ((), (1, 0), (0, 0), (0, 2, 1), [0, 1], (0, True), (False,), ("0",), (-1, 0), (0, 9), (9,), None, 0, "01", ((0,),),
                      NINE + (9,)):
            self.writes_not((9, seats, ()))
            self.writes_not((9, (0,), (("move", 0, seats),)))

    def test_numbers_of_keepers(self):
        for k in (9, 10, -1, HUGE, None, True, "0"):
            for deed in (("stand", k), ("wake", k), ("beat", k, 0), ("beat", 0, k), ("turn", "al", k), ("move", k, (0,)), ("pack", k, 1)):
                self.writes_not(with_deeds(deed))

    def test_names_and_words(self):
        for name in ("", "A", "abcdefghi", "a b", "a1", "al\n", " al", None, 1, ("al",)):
            for deed in (("wish", name, ("get", "x")), ("again", name), ("turn", name, 0), ("wish", "al", ("get", name))):
                self.writes_not(with_deeds(deed))
        for word in ("", "sit", "Stand", "stand ", "room", "pack_up", "told", "hand", None, 0, ("stand",), ["stand"]):
            self.writes_not(with_deeds((word, 0)))
            self.writes_not(with_deeds((word, 0, 1)))
        for word in ("put", "", "Set", None):
            self.writes_not(with_deeds(("wish", "al", (word, "x", 1))))

    def test_other_things(self):
        things = [None, True, 0, 3, "", "room 1 0\n", (), [], ((),), (3,), (3, (0,)), [3, (0,), ()], (3, (0,), []), (3, (0,), None),
                  (3, (0,), STAND), (3, (0,), (None,)), (3, (0,), ("stand 0",)), (3, (0,), ((),)), (3, (0,), (["stand", 0],)),
                  deep(tuple, 5000), deep(list, 5000), (3, (0,), (deep(tuple, 5000),)), (3, (0,), (("wish", "al", deep(list, 5000)),))]
        for thing in things:
            self.writes_not(thing)

    def test_what_is_handed_in_is_not_changed(self):
        thing = [3, [0, 1], [["stand", 0]]]
        self.writes_not(thing)
        self.assertEqual(thing, [3, [0, 1], [["stand", 0]]])


class NoTexts(Both):
    """Texts that are the writing of no schedule."""

    def test_line_ends(self):
        for text in ("", "\n", "\n\n", "room 1 0", ROOM + "stand 0", ROOM + "\n", ROOM + "\nstand 0\n", ROOM + "stand 0\n\n", "\n" + ROOM,
                     ROOM + "stand 0\n\nstand 1\n", ROOM + "stand 0\r\n", "room 1 0\r\n", "room 1 0\r", ROOM + "stand 0\n ", ROOM + " \n"):
            self.reads_not(text)
        # Other signs at which a row may seem to end.
        for sign in "\r\v\f\x1c\x1d\x1e\x85\u2028\u2029":
            self.reads_not(f"room 1 0{sign}stand 0\n")
            self.reads_not(f"room 1 0\nstand 0{sign}")
            self.reads_not(f"room 1 0\nstand 0{sign}stand 0\n")

    def test_blanks(self):
        for text in (" room 1 0\n", "room 1 0 \n", "room  1 0\n", "room 1  0\n", "room\t1 0\n", ROOM + " stand 0\n", ROOM + "stand 0 \n",
                     ROOM + "stand  0\n", ROOM + "wish al  get x\n", ROOM + "wish al get x \n", ROOM + "move 0 0  1\n", ROOM + "move 0 0 1 \n",
                     "room1 0\n", ROOM + "stand0\n", ROOM + "stand\t0\n"):
            self.reads_not(text)

    def test_numbers(self):
        for word in ("00", "01", "-0", "+0", "+1", "-1", "", "0x1", "1_0", "1.0", "one", "--1", "-", "9", "0a", "a0", "\u0661", "\u00b2"):
            for row in ("stand {}", "wake {}", "beat {} 1", "beat 1 {}", "turn al {}", "move {} 0", "move 0 {}", "pack {} 1"):
                self.reads_not(ROOM + row.replace("{}", word) + "\n")
        for word in ("00", "01", "-0", "+0", "+1", "-1", "", "0x1", "1_0", "1.0", "1000000", "0000001", "1" * 60, "1" * 61):
            for row in ("bring {}", "double {}", "lose {}", "pack 0 {}"):
                self.reads_not(ROOM + row.replace("{}", word) + "\n")
        for word in ("00", "01", "-0", "-01", "+0", "+1", "", "-", "1_0", "1.0", "x", "1" * 61, "-" + "1" * 61, "0" * 60):
            for row in ("wish al set x {}", "wish al add x {}"):
                self.reads_not(ROOM + row.replace("{}", word) + "\n")

    def test_a_word_too_few_or_too_many(self):
        for deed, row in EACH_DEED:
            words = row.split(" ")
            others = {" ".join(words[:at] + words[at + 1:]) for at in range(len(words))}
            others |= {row + " " + more for more in ("0", "8", "al", "x", "-1", words[0])}
            for other in others:
                if words[0] != "move":
                    self.reads_not(f"{ROOM}{other}\n")
        for row in ("move", "move 0", "move 0 al", "move 0 0 al", "wish", "wish al", "wish al set", "wish al set x", "wish al get x 1",
                    "wish al set x 1 2", "again", "turn al", "stand", "bring"):
            self.reads_not(f"{ROOM}{row}\n")

    def test_words_that_stand_for_no_deed(self):
        for row in ("sit 0", "Stand 0", "STAND 0", "room 3 0 1 2", "pack_up 0 1", "told al 1 1", "done", "log 0", "ask 0 1 1 0 0", "#", "0", "al",
                    "wish al put x 1", "wish al Set x 1", "wish al wish x 1", "standing 0", "-"):
            self.reads_not(f"{ROOM}{row}\n")

    def test_first_rows(self):
        for row in ("room", "room 3", "room 0 0", "room 10 0", "room -1 0", "room 03 0", "room 3 3", "room 3 0 3", "room 1 1", "room 3 1 0",
                    "room 3 0 0", "room 3 0 2 1", "room 3 00", "room 3 -0", "room 3 -1 0", "room 3 al", "room al 0", "Room 3 0", "rooms 3 0",
                    "stand 0", "3 0", "room 9 0 1 2 3 4 5 6 7 8 9", "room 9 9", "room 3 3 0 1 2 3", ""):
            self.reads_not(f"{row}\n")
            self.reads_not(f"{row}\nstand 0\n")
        self.reads_not("stand 0\n" + ROOM)

    def test_seats_of_a_move(self):
        for seats in ("1 0", "0 0", "0 2 1", "0 9", "9", "-1 0", "01", "2 0 1", "0 1 2 3 4 5 6 7 8 8", "0 1 2 3 4 5 6 7 8 9"):
            self.reads_not(f"{ROOM}move 0 {seats}\n")

    def test_names(self):
        for name in ("", "A", "Al", "abcdefghi", "a1", "1", "a-b", "a_b", "-", "al\r"):
            for row in ("wish {} get x", "again {}", "turn {} 0", "wish al get {}", "wish al set {} 1", "wish al add {} 1"):
                self.reads_not(ROOM + row.replace("{}", name) + "\n")

    def test_texts_changed_in_one_sign(self):
        """Whatever comes of it is refused, or is the very writing of what it is read to."""
        refused = read = 0
        for text in ("room 3 0 1 2\nwish al set x -10\nmove 1 0 2\nbeat 0 1\n", "room 9 8\npack 2 100\nturn bob 3\nwish zoe get y\nagain al\n"):
            texts = {text[:at] + text[at + 1:] for at in range(len(text))}
            for sign in " 0129-ax\n\t":
                texts |= {text[:at] + sign + text[at:] for at in range(len(text) + 1)}
                texts |= {text[:at] + sign + text[at + 1:] for at in range(len(text))}
            for other in texts:
                try:
                    schedule = read_schedule(other)
                except NoSchedule:
                    refused += 1
                else:
                    read += 1
                    self.writes(schedule, other)
        self.assertGreater(refused, 500)
        self.assertGreater(read, 100)


if __name__ == "__main__":
    unittest.main()
