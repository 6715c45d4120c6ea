"""Deeds of a schedule done in a room, the states that a room comes to, and the log of a history of states."""

from keeplog.errors import LogError


def keeper_state(keeper):
    return (keeper.term, keeper.way, keeper.head, keeper.row, keeper.agreed, keeper.store, keeper.pack)


def state_of(room):
    keepers = [keeper_state(room.keeper(k)) for k in range(room.size())]
    callers = [(name, tuple(room.answers(name))) for name in room.callers()]
    return (tuple(keepers), tuple(room.letters()), tuple(callers))


def counted_round(room, at):
    many = len(room.letters())
    # By none there is no remainder, and the road refuses whatever place.
    return at if many == 0 else at % many


def done_with_letter(room, deed):
    at = counted_round(room, deed[1])
    if deed[0] == "bring":
        return room.bring(at)
    if deed[0] == "double":
        return room.double(at)
    return room.lose(at)


def done_by_caller(room, deed):
    if deed[0] == "wish":
        return room.wish(deed[1], deed[2])
    if deed[0] == "again":
        return room.again(deed[1])
    return room.turn(deed[1], deed[2])


def done_by_keeper(room, deed):
    if deed[0] == "stand":
        return room.stand(deed[1])
    if deed[0] == "beat":
        return room.beat(deed[1], deed[2])
    if deed[0] == "move":
        return room.move(deed[1], deed[2])
    if deed[0] == "pack":
        return room.pack_up(deed[1], deed[2])
    return room.wake(deed[1])


def act(room, deed):
    if deed[0] in ("bring", "double", "lose"):
        return done_with_letter(room, deed)
    if deed[0] in ("wish", "again", "turn"):
        return done_by_caller(room, deed)
    return done_by_keeper(room, deed)


def done_in(room, deed):
    try:
        outcome = act(room, deed)
    except LogError:
        return "refused"
    # Only a move and a packing up tell whether they were done; all else gives None.
    return "not done" if outcome is False else "done"


def agreed_entries(keeper):
    row = keeper[3]
    agreed = keeper[4]
    return [(place, entry) for place, entry in enumerate(row[2], start=row[0] + 1) if place <= agreed]


def first_known(history):
    # By their places, each as the first one that knows it has it.
    known = {}
    for state in history:
        for keeper in state[0]:
            for place, entry in agreed_entries(keeper):
                known.setdefault(place, entry)
    return known


def log_of(history):
    known = first_known(history)
    entries = []
    while len(entries) + 1 in known:
        entries.append(known[len(entries) + 1])
    return tuple(entries)
