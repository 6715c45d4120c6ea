"""A road: the letters that are on their way, in a row."""

from keeplog.errors import NoPlace


class Road:
    def __init__(self):
        self.under_way = []

    def put(self, letters):
        self.under_way = self.under_way + list(letters)

    def look(self, at):
        # A place below nought would count from the end.
        if at < 0 or at >= len(self.under_way):
            raise NoPlace("the road has no letter at this place")
        return self.under_way[at]

    def take(self, at):
        letter = self.look(at)
        self.under_way = self.under_way[:at] + self.under_way[at + 1:]
        return letter

    def waiting(self):
        return list(self.under_way)
