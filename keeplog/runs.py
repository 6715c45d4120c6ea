"""Schedules run from their first deed to their last: the history of one, and a text of one played."""

from keeplog.histories import done_in, log_of, state_of
from keeplog.rooms import Room
from keeplog.schedules import read_schedule


def run(schedule):
    # What each deed tells, and the states at first and behind each deed.
    room = Room(schedule[0], schedule[1])
    tells = []
    states = [state_of(room)]
    for deed in schedule[2]:
        tells.append(done_in(room, deed))
        states.append(state_of(room))
    return (tells, states)


def history(schedule):
    return run(schedule)[1]


def told_row(name, number, answer):
    return f"told {name} {number} {answer}"


def told_rows(state):
    rows = []
    for name, answers in state[2]:
        rows.extend([told_row(name, number, answer) for number, answer in answers])
    return rows


def played(text):
    pair = run(read_schedule(text))
    states = pair[1]
    many = len(log_of(states))
    rows = pair[0] + told_rows(states[-1]) + [f"log {many}"]
    return "\n".join(rows + [""])
