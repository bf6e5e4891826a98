"""What the measured ways, there and back, come to, and the wait that follows them."""

WAIT_LEAST = 2


def lowest(top, bottom):
    # Halves and quarters are all that ever arises, so the bottom is a power of two, and so is what both share.
    shared = (top | bottom) & -(top | bottom)
    return (top // shared, bottom // shared)


class Ways:
    def __init__(self, first, longest):
        self.longest = longest
        self.smooth = None
        self.spread = None
        self.wait = first

    def measured(self, m):
        if self.smooth is None:
            self.smooth = (m, 1)
            self.spread = lowest(m, 2)
        else:
            # The spread is reckoned from smooth as it was.
            self.spread = self.next_spread(m)
            self.smooth = self.next_smooth(m)
        self.wait = max(WAIT_LEAST, min(self.longest, self.least_wait()))

    def next_spread(self, m):
        bottoms = self.smooth[1] * self.spread[1]
        away = abs(self.smooth[0] - m * self.smooth[1])
        return lowest(3 * self.spread[0] * self.smooth[1] + away * self.spread[1], 4 * bottoms)

    def next_smooth(self, m):
        return lowest(3 * self.smooth[0] + m * self.smooth[1], 4 * self.smooth[1])

    def least_wait(self):
        top = self.smooth[0] * self.spread[1] + 4 * self.spread[0] * self.smooth[1]
        # Rounded up: what is rounded down of the number below 0 is turned round again.
        return -(-top // (self.smooth[1] * self.spread[1]))

    def ran_out(self):
        self.wait = min(2 * self.wait, self.longest)
