"""A caller: one wish at a time, said to the keeper that it asks, until it is told the answer."""


class Caller:
    def __init__(self, name, keeper):
        self.name = name
        self.number = 0
        self.waits = False
        self.deed = None
        self.asks = keeper
        self.told = []

    def wish(self, deed):
        if self.waits:
            return []
        self.number = self.number + 1
        self.waits = True
        self.deed = deed
        return self.again()

    def again(self):
        if not self.waits:
            return []
        return [("wish", self.name, self.asks, self.number, self.deed)]

    def take_told(self, letter):
        # The road may bring the answer to an earlier wish late, or this one twice.
        if self.waits and letter[3] == self.number:
            # Another list each time: who read the one ahead keeps it as it was.
            self.told = self.told + [(letter[3], letter[4])]
            self.waits = False

    def take_away(self, letter):
        if letter[4] is not None:
            self.asks = letter[4]
