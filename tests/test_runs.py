import unittest

from keeplog.errors import LogError, NoSchedule
from keeplog.histories import done_in, log_of, state_of
from keeplog.rooms import Room
from keeplog.runs import history, played
from keeplog.schedules import read_schedule, written_schedule
from tests.planning import SCHEDULES, chance_schedule
from tests.rooming import whole
from tests.samples import SIXTY


def rows(*texts):
    return "".join(text + "\n" for text in texts)


class Histories(unittest.TestCase):
    def test_without_deeds(self):
        for count in (1, 3, 9):
            states = history((count, (0,), ()))
            self.assertEqual(states, [state_of(Room(count, (0,)))])
            self.assertIsInstance(states, list)

    def test_at_first_and_behind_each_deed(self):
        states = history((2, (0, 1), (("stand", 0), ("bring", 5), ("lose", 0), ("lose", 0), ("again", "al"))))
        first = (0, "plain", None, (0, 0, ()), 0, ((), ()), (0, 0, (0, 1), ((), ())))
        standing, heard = (1, "standing") + first[2:], (1,) + first[1:]
        ask, voice = ("ask", 0, 1, 1, 0, 0), ("voice", 1, 0, 1, True)
        self.assertEqual(states, [
            ((first, first), (), ()),
            ((standing, first), (ask,), ()),
            ((standing, heard), (voice,), ()),
            ((standing, heard), (), ()),
            ((standing, heard), (), ()),
            ((standing, heard), (), (("al", ()),)),
        ])

    def test_as_done_deed_by_deed(self):
        for seed in range(20):
            schedule = chance_schedule(seed, 120)
            room = Room(*schedule[:2])
            states = [state_of(room)]
            for deed in schedule[2]:
                done_in(room, deed)
                states.append(state_of(room))
            self.assertEqual(history(schedule), states)

    def test_the_same_schedule_twice(self):
        schedule = chance_schedule(5, 200)
        one, other = history(schedule), history(schedule)
        self.assertEqual(one, other)
        ahead = whole(other)
        one.clear()
        self.assertEqual(whole(other), ahead)
        self.assertEqual(history(schedule), other)

    def test_more_deeds_and_longer_numbers_than_are_written(self):
        states = history((1, (0,), (("stand", 0), ("wish", "al", ("set", "x", 10 ** 70)), ("bring", 0)) + (("wake", 0),) * 298))
        self.assertEqual(len(states), 302)
        self.assertEqual(log_of(states)[1][1][3], ("set", "x", 10 ** 70))


class Played(unittest.TestCase):
    def gives(self, text, *told):
        self.assertEqual(played(text), rows(*told))

    def test_without_deeds(self):
        self.gives("room 1 0\n", "log 0")
        self.gives("room 9 0 1 2 3 4 5 6 7 8\n", "log 0")

    def test_one_keeper_alone(self):
        self.gives(rows("room 1 0", "stand 0", "wish al add x 7", "bring 0", "bring 0"), "done", "done", "done", "done", "told al 1 7", "log 2")

    def test_three_keepers(self):
        text = rows("room 3 0 1 2", "stand 0", "bring 0", "bring 1", "bring 1", "wish al add x -7", "bring 2", "bring 2", "beat 0 1",
                    "bring 2", "bring 2", "bring 2")
        self.gives(text, *["done"] * 11, "told al 1 -7", "log 2")

    def test_what_each_deed_tells(self):
        text = rows("room 2 0", "bring 0", "double 3", "lose 0", "stand 0", "move 0 0 1", "move 0 0", "move 0 2", "move 5 0", "pack 0 1", "pack 0 1",
                    "pack 2 1", "beat 0 0", "beat 0 1", "beat 1 0", "beat 2 1", "lose 999999", "turn al 2", "turn al 1", "again bob", "wake 1",
                    "wake 2", "stand 8", "wish al get x", "lose 1")
        self.gives(text, "refused", "refused", "refused", "done", "done", "not done", "refused", "refused", "done", "not done", "refused",
                   "refused", "done", "done", "refused", "done", "refused", "done", "done", "done", "refused", "refused", "done", "done", "log 1")

    def test_answers_in_the_order_of_the_callers(self):
        text = rows("room 1 0", "again zoe", "stand 0", "wish bob set x 5", "bring 0", "bring 0", "wish al add x 1", "bring 0", "bring 0",
                    "wish zoe get x", "bring 0", "bring 0", "wish bob get y", "bring 0", "bring 0", "wish cy get x", "wish bob add x -20", "bring 1",
                    "bring 1")
        self.gives(text, *["done"] * 18, "told zoe 1 6", "told bob 1 0", "told bob 2 0", "told bob 3 -14", "told al 1 6", "log 6")

    def test_only_what_a_caller_was_told(self):
        text = rows("room 1 0", "stand 0", "wish al add x 1", "bring 0")
        self.gives(text, "done", "done", "done", "log 2")
        self.gives(text + rows("lose 0"), "done", "done", "done", "done", "log 2")
        self.gives(text + rows("double 0", "bring 0"), "done", "done", "done", "done", "done", "told al 1 1", "log 2")

    def test_an_answer_of_more_than_sixty_figures(self):
        for sign, value in (("", SIXTY), ("-", -SIXTY)):
            text = rows("room 1 0", "stand 0") + rows(f"wish al add x {value}", "bring 0", "bring 0") * 3
            answers = [f"told al {number} {value * number}" for number in (1, 2, 3)]
            self.assertEqual(answers[2], f"told al 3 {sign}2" + "9" * 59 + "7")
            self.gives(text, *["done"] * 10, *answers, "log 4")

    def test_the_log_as_far_as_any_keeper_knew_it(self):
        begun = rows("room 2 0 1", "stand 0", "bring 0", "bring 0")
        self.gives(begun, *["done"] * 3, "log 0")
        self.gives(begun + rows("bring 0"), *["done"] * 4, "log 0")
        self.gives(begun + rows("bring 0", "bring 0"), *["done"] * 5, "log 1")
        self.gives(begun + rows("bring 0", "bring 0", "wake 0"), *["done"] * 6, "log 1")
        self.gives(begun + rows("bring 0", "bring 0", "pack 0 1", "wake 0"), *["done"] * 7, "log 1")
        self.gives(begun + rows("bring 0", "bring 0", "move 0 0"), *["done"] * 6, "log 2")

    def test_seats_that_are_moved_and_a_pack_that_is_handed_on(self):
        text = rows("room 2 0", "stand 0", "wish al set x 9", "bring 0", "pack 0 2", "move 0 0 1", "beat 0 1", "bring 1", "bring 1", "beat 0 1",
                    "bring 1", "bring 1", "beat 0 1", "bring 1", "bring 1", "beat 0 1", "bring 1", "bring 1", "bring 0", "stand 1", "bring 0",
                    "bring 0", "bring 0", "bring 0", "turn al 1", "wish al get x", "bring 0", "beat 1 0", "bring 0", "bring 0", "bring 0")
        self.gives(text, *["done"] * 30, "told al 1 0", "told al 2 9", "log 5")
        packs = [letter for state in history(read_schedule(text)) for letter in state[1] if letter[0] == "pack"]
        store = ((("x", 9),), (("al", 1, 0),))
        self.assertEqual(set(packs), {("pack", 0, 1, 1, (2, 1, (0,), store))})

    def test_the_same_text_twice(self):
        for seed in range(5):
            text = written_schedule(chance_schedule(seed, 200))
            self.assertEqual(played(text), played(text))

    def test_texts_that_are_refused(self):
        for text in ("", "\n", "room 1 0", "room 0 0\n", "room 10 0\n", "room 1 1\n", "room 1 0\n\n", "room 1 0\nsit 0\n", "room 1 0\nstand 9\n",
                     "room 1 0\nstand 00\n", "room 1 0\nbring 1000000\n", "room 1 0\nwish al set x " + "1" * 61 + "\n",
                     "room 1 0\n" + "stand 0\n" * 301, "stand 0\n", "room 3 1 0\n"):
            with self.assertRaises(NoSchedule) as caught:
                played(text)
            self.assertIsInstance(caught.exception, LogError)

    def test_300_deeds(self):
        self.gives("room 1 0\n" + "stand 0\n" * 300, *["done"] * 300, "log 300")
        text = "room 9 0 1 2 3 4 5 6 7 8\n" + "stand 0\n" * 300
        self.gives(text, *["done"] * 300, "log 0")

    def test_all_schedules(self):
        for schedule, text in SCHEDULES:
            self.agrees_with_its_history(schedule, text)
        for seed in range(30):
            schedule = chance_schedule(seed, 10 * seed)
            self.agrees_with_its_history(schedule, written_schedule(schedule))

    def agrees_with_its_history(self, schedule, text):
        states, told = history(schedule), played(text).split("\n")
        room = Room(*schedule[:2])
        wanted = [done_in(room, deed) for deed in schedule[2]]
        for name, answers in states[-1][2]:
            wanted += [f"told {name} {number} {answer}" for number, answer in answers]
        self.assertEqual(told, wanted + [f"log {len(log_of(states))}", ""])


if __name__ == "__main__":
    unittest.main()
