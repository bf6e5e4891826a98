"""The seven states of a hand. Each tells which one comes next; none ever changes."""

from slowroad.errors import NotNow


class State:
    def name(self):
        return ""

    def wish_begin(self):
        raise NotNow(self.name(), "begin")

    def wish_end(self):
        raise NotNow(self.name(), "end")

    def may_put(self):
        return False

    def begun(self):
        return self

    def ended(self):
        return self

    def answered(self):
        return self


class Shut(State):
    def name(self):
        return "shut"

    def wish_begin(self):
        return Calling()

    def begun(self):
        return Open()


class Calling(State):
    def name(self):
        return "calling"

    def wish_end(self):
        return Leaving()

    def may_put(self):
        return True

    def begun(self):
        return Open()


class Open(State):
    def name(self):
        return "open"

    def wish_end(self):
        return Leaving()

    def may_put(self):
        return True

    def ended(self):
        return Left()


class Left(State):
    def name(self):
        return "left"

    def wish_end(self):
        return Closing()

    def may_put(self):
        return True


class Leaving(State):
    def name(self):
        return "leaving"

    def ended(self):
        return Closing()

    def answered(self):
        return Waiting()


class Waiting(State):
    def name(self):
        return "waiting"

    def ended(self):
        return Shut()


class Closing(State):
    def name(self):
        return "closing"

    def answered(self):
        return Shut()
