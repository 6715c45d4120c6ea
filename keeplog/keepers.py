"""A keeper: what it has, how it begins, waking, hearing of a term, and the seats in force for it."""

from keeplog.packs import first_pack
from keeplog.rows import begun, end_of
from keeplog.seats import seats_of


class Keeper:
    def __init__(self, number, seats):
        self.number = number
        self.term = 0
        self.voice = None
        self.pack = first_pack(seats)
        self.row = begun()
        self.wake()

    def wake(self):
        self.be_plain()
        self.know_no_places()
        # Of what stands behind the pack it is not written down how much was agreed.
        self.agreed = self.pack[0]
        self.store = self.pack[3]

    def hear(self, term):
        if term > self.term:
            self.term = term
            self.voice = None
            self.be_plain()

    def be_plain(self):
        self.way = "plain"
        self.voices = ()
        self.head = None
        self.waits = ()

    def know_no_places(self):
        # Of what the others hold it knows nothing, and tries them at its own end first.
        self.nexts = (end_of(self.row) + 1,) * 9
        self.held = (0,) * 9


def seats_now(keeper):
    return seats_of(keeper.row, keeper.pack[2])
