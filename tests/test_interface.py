"""The names of the interface, with their arguments, as they stand in the document."""

import importlib
import inspect
import unittest

from keeplog.callers import Caller
from keeplog.errors import LogError
from keeplog.keepers import Keeper

FUNCTIONS = {
    "things": ["is_name(thing)", "is_deed(thing)", "is_what(thing)", "is_entry(thing)", "is_seats(thing)", "is_store(thing)",
               "is_pack(thing)", "is_letter(thing)"],
    "writing": ["written(letter)"],
    "reading": ["read(line)"],
    "rows": ["begun()", "end_of(row)", "term_at(row, place)", "entry_at(row, place)", "behind(row, place, many)", "newness(row)",
             "as_new(last, place, row)", "agrees(row, place, last)"],
    "filling": ["put(row, entry)", "filled(row, place, entries)", "cut_off(row, place)", "taken_over(row, place, last)"],
    "seats": ["most(seats, those)", "one_off(seats, others)", "seats_of(row, first)", "seats_place(row)"],
    "counting": ["reached(seats, held)", "holders(seats, held, place)", "meeting(seats, those, others, these)"],
    "stores": ["fresh()", "value_of(store, name)", "done(store, deed)", "number_of(store, caller)", "answer_of(store, caller, number)",
               "applied(store, what)", "replayed(store, entries)"],
    "packs": ["first_pack(seats)", "pack_at(pack, row, place)"],
    "keepers": ["Keeper(number, seats)", "seats_now(keeper)"],
    "voting": ["stand(keeper)", "take_ask(keeper, letter)", "take_voice(keeper, letter)"],
    "handing": ["beat(keeper, other)", "take_hand(keeper, letter)", "take_pack(keeper, letter)"],
    "agreeing": ["take_held(keeper, letter)", "take_wish(keeper, letter)", "move(keeper, seats)", "pack_up(keeper, place)"],
    "roads": ["Road()"],
    "callers": ["Caller(name, keeper)"],
    "rooms": ["Room(count, seats)"],
    "schedules": ["written_schedule(schedule)", "read_schedule(text)"],
    "histories": ["state_of(room)", "done_in(room, deed)", "log_of(history)"],
    "runs": ["history(schedule)", "played(text)"],
}
METHODS = {
    "keepers.Keeper": ["hear(term)", "wake()"],
    "roads.Road": ["put(letters)", "look(at)", "take(at)", "waiting()"],
    "callers.Caller": ["wish(deed)", "again()", "take_told(letter)", "take_away(letter)"],
    "rooms.Room": ["stand(k)", "beat(k, other)", "bring(at)", "double(at)", "lose(at)", "wish(caller, deed)", "again(caller)",
                   "turn(caller, k)", "wake(k)", "move(k, seats)", "pack_up(k, place)", "size()", "keeper(k)", "letters()", "callers()",
                   "answers(caller)"],
}
REFUSALS = ["NoLetter", "NoPlace", "NoKeeper", "NoRoom", "NoSchedule"]


def module(name):
    return importlib.import_module(f"keeplog.{name}")


class Interface(unittest.TestCase):
    def test_functions_and_classes(self):
        for name, wanted in FUNCTIONS.items():
            for form in wanted:
                thing = getattr(module(name), form.partition("(")[0])
                self.assertEqual(thing.__name__ + str(inspect.signature(thing)), form)

    def test_methods(self):
        for name, wanted in METHODS.items():
            file, dot, kind = name.partition(".")
            for form in wanted:
                method = getattr(getattr(module(file), kind), form.partition("(")[0])
                parts = ", ".join(list(inspect.signature(method).parameters)[1:])
                self.assertEqual(f"{method.__name__}({parts})", form)

    def test_values(self):
        self.assertLessEqual(set("number term voice pack row way voices nexts held agreed store head waits".split()), set(vars(Keeper(0, (0,)))))
        self.assertLessEqual(set("name number waits deed asks told".split()), set(vars(Caller("al", 0))))

    def test_errors(self):
        self.assertEqual(LogError.__bases__, (ValueError,))
        for name in REFUSALS:
            self.assertEqual(getattr(module("errors"), name).__bases__, (LogError,))


if __name__ == "__main__":
    unittest.main()
