"""The search for fine tables whose delivery at each sending is one of those that come of it.

The deliveries of a sending are told by their places here, and lots of them by the bits of a number.
"""

from onestory.shapes import bits_by, rows
from onestory.tables import Table


class Picks:
    """Which deliveries of which two sendings can stand in a fine table together."""

    def __init__(self, chances):
        self.sends = chances.sends
        self.takes = chances.takes
        self.lines = rows(chances.sends)
        self.coming = [[received for received, _ in pairs] for pairs in chances.weights]
        # For each sending, for each room, for each note the deliveries that bring it.
        self.bringing = [[bits_by(choices, room) for room in range(len(self.sends))] for choices in self.coming]
        # For each sending, for each of its deliveries, for each other sending the deliveries that go with it.
        self.going = [[[self.parted_from(at, received, other) for other in range(len(self.lines))]
                       for received in choices] for at, choices in enumerate(self.coming)]

    def parted_from(self, at, received, other):
        """The deliveries of the other sending that this one at its sending is parted from by some room."""
        bits = 0
        for room, number in enumerate(self.lines[at]):
            if number != self.lines[other][room]:
                bits = bits | self.bringing[other][room].get(received[room], 0)
        return bits

    def narrowed(self, left, changed):
        """What is left for each sending when what goes with nothing is taken away; None if nothing is for some.

        What stands in changed are the sendings for which less is left than before.
        """
        left = list(left)
        waiting = list(changed)
        while waiting:
            at = waiting.pop()
            for other in range(len(left)):
                if other != at:
                    kept = left[other] & self.allowed(left[at], at, other)
                    if kept == 0:
                        return None
                    if kept != left[other]:
                        left[other] = kept
                        if other not in waiting:
                            waiting.append(other)
        return left

    def allowed(self, bits, at, other):
        """What may stand at the other sending if one of these deliveries stands at this one."""
        found = 0
        for place in places(bits):
            found = found | self.going[at][place][other]
        return found

    def all_tables(self, most):
        """The list of all such fine tables, ascending by their notes; None if there are more than most."""
        start = [(1 << len(choices)) - 1 for choices in self.coming]
        waiting = [self.narrowed(start, list(range(len(start))))]
        found = []
        while waiting:
            left = waiting.pop()
            if left is None:
                continue
            loose = sorted([(len(places(bits)), at) for at, bits in enumerate(left) if len(places(bits)) > 1])
            if not loose:
                found.append(tuple([choices[places(bits)[0]] for choices, bits in zip(self.coming, left)]))
                if len(found) > most:
                    return None
                continue
            at = loose[0][1]
            for place in places(left[at]):
                waiting.append(self.narrowed(left[:at] + [1 << place] + left[at + 1:], [at]))
        return [Table(self.sends, self.takes, notes) for notes in sorted(found)]


def places(bits):
    """The ascending list of the places whose bits are set."""
    found = []
    left = bits
    while left:
        least = left & -left
        found.append(least.bit_length() - 1)
        left = left ^ least
    return found
