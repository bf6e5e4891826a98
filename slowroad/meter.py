"""A meter tells how many pieces may be under way on the road."""


class Meter:
    def __init__(self, most):
        self.most = most
        self.window = min(2, most)
        self.knee = most
        self.counted = 0

    def known(self, many):
        for piece in range(many):
            self.know_one()

    def know_one(self):
        if self.window == self.most:
            return
        if self.window < self.knee:
            self.window += 1
            return
        self.counted += 1
        if self.counted == self.window:
            self.window += 1
            self.counted = 0

    def half(self):
        return max(1, self.window // 2)

    def ran_out(self):
        self.knee = self.half()
        self.window = 1
        self.counted = 0

    def hurried(self):
        self.knee = self.half()
        self.window = self.knee
        self.counted = 0
