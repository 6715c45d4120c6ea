"""What is promised of every schedule, looked at from outside: by the states of its history, and by nothing else."""

import unittest

from keeplog.histories import log_of
from keeplog.runs import history, played
from keeplog.schedules import read_schedule, written_schedule
from keeplog.things import is_letter, is_pack, is_store
from tests.gathering import outcome_of
from tests.planning import chance_schedule


class Whole(unittest.TestCase):
    def has_one_head_in_each_term(self, states):
        """By the ways of keepers, and by the letters that none but a head writes."""
        heads = {}
        for keepers, letters, callers in states:
            seen = [(keeper[0], k) for k, keeper in enumerate(keepers) if keeper[1] == "head"]
            seen += [(letter[3], letter[1]) for letter in letters if letter[0] in ("hand", "pack")]
            for term, k in seen:
                self.assertEqual(heads.setdefault(term, k), k, "two heads in one term")
        return heads

    def has_one_log(self, states):
        by_place = {}
        for keepers, letters, callers in states:
            for term, way, head, row, agreed, store, pack in keepers:
                self.assertTrue(row[0] <= agreed <= row[0] + len(row[2]))
                for place, entry in enumerate(row[2][:agreed - row[0]], start=row[0] + 1):
                    self.assertEqual(by_place.setdefault(place, entry), entry, "two entries agreed at one place")
        log = tuple(by_place[place] for place in range(1, len(by_place) + 1))
        self.assertEqual(log_of(states), log)
        return log

    def comes_to_the_same(self, states, seats, log):
        """The store, and the seats of the pack, are those of the first so many entries."""
        for keepers, letters, callers in states:
            for term, way, head, row, agreed, store, pack in keepers:
                self.assertLessEqual(agreed, len(log))
                self.assertEqual(store, outcome_of(seats, log[:agreed])[1])
                last = log[row[0] - 1][0] if row[0] else 0
                self.assertEqual(row[:2], (row[0], last))
                self.assertEqual(pack, (row[0], last) + outcome_of(seats, log[:row[0]])[:2])
                self.assertTrue(is_pack(pack) and is_store(store))

    def moves_seats_one_at_a_time(self, seats, log):
        for term, what in log:
            if what[0] == "seats":
                self.assertEqual(len(set(seats) ^ set(what[1])), 1)
                seats = what[1]

    def tells_what_stands(self, states, seats):
        """Told, it stands: as soon as it is told, and whatever comes later."""
        known, told = [], {}
        for at, (keepers, letters, callers) in enumerate(states):
            said = [(name, number, answer) for name, answers in callers for number, answer in answers]
            said += [(letter[2], letter[3], letter[4]) for letter in letters if letter[0] == "told"]
            for name, number, answer in said:
                if (name, number) not in told:
                    known.append((at, name, number, answer))
                self.assertEqual(told.setdefault((name, number), answer), answer, "told twice, and not the same")
        for at, name, number, answer in known:
            log = log_of(states[:at + 1])
            self.assertIn((name, number), [what[1:3] for term, what in log if what[0] == "wish"])
            self.assertEqual(outcome_of(seats, log)[2][name, number], answer)
        return told

    def keeps_what_was_told(self, states):
        """Callers stay in their order, and so do their answers."""
        for ahead, state in zip(states, states[1:]):
            self.assertEqual([name for name, answers in state[2]][:len(ahead[2])], [name for name, answers in ahead[2]])
            for (name, answers), (same, more) in zip(ahead[2], state[2]):
                self.assertEqual(more[:len(answers)], answers)
                self.assertEqual([number for number, answer in more], list(range(1, len(more) + 1)))

    def goes_on(self, states):
        """Terms never go back."""
        for ahead, state in zip(states, states[1:]):
            for old, new in zip(ahead[0], state[0]):
                self.assertGreaterEqual(new[0], old[0])
                self.assertGreaterEqual(new[3][0], old[3][0])

    def test_schedules(self):
        heads = entries = answers = packs = moves = refused = 0
        for seed in range(150):
            with self.subTest(seed):
                schedule = chance_schedule(seed, 300)
                states, seats = history(schedule), schedule[1]
                self.assertEqual(len(states), 301)
                heads += len(self.has_one_head_in_each_term(states))
                log = self.has_one_log(states)
                self.comes_to_the_same(states, seats, log)
                self.moves_seats_one_at_a_time(seats, log)
                answers += len(self.tells_what_stands(states, seats))
                self.keeps_what_was_told(states)
                self.goes_on(states)
                self.assertTrue(all(is_letter(letter) for letter in states[-1][1]))
                text = written_schedule(schedule)
                self.assertEqual(read_schedule(text), schedule)
                told = played(text).split("\n")
                self.assertEqual(told[-2:], [f"log {len(log)}", ""])
                self.assertLessEqual(set(told[:300]), {"done", "not done", "refused"})
                entries += len(log)
                packs += sum(keeper[3][0] > 0 for keeper in states[-1][0])
                moves += sum(what[0] == "seats" for term, what in log)
                refused += told.count("refused")
        # So that the schedules are of some use.
        self.assertGreater(min(heads, entries, answers, packs, moves, refused), 100)


if __name__ == "__main__":
    unittest.main()
