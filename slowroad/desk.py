"""A desk is told rows, one at a time, and answers each with a text."""

from slowroad.errors import NoRow
from slowroad.forms import SIDE_WORDS, deeds_of, number_of, side_of_road, terms_of, turns_of, wish_of
from slowroad.reckon import reckoned
from slowroad.texts import kept
from slowroad.walk import WISHES_MOST, Walk

WHOLE_WORDS = ("quiet", "bound", "kept")
SIDED_WORDS = ("state", "stand", "in", "out")


def signs_of(things):
    return "".join([thing[1] for thing in things])


# What a talk is told is answered with a text, and refused with None: the desk alone knows which number to refuse with.
class Talk:
    def __init__(self, terms):
        self.terms = terms
        self.deeds = [[], []]
        self.wishes = []
        self.walk = None

    def hear_row(self, row):
        words = row.split(" ")
        if words[0] == "road":
            return self.hear_road(row)
        if words[0] == "wish":
            return self.hear_wish(row)
        if words[0] == "turn":
            return self.go_to(turns_of(row, "turn"))
        if words[0] == "run":
            return self.run_to(turns_of(row, "run"))
        if row in WHOLE_WORDS:
            return self.tell_whole(row)
        if len(words) == 2 and words[0] in SIDED_WORDS and words[1] in SIDE_WORDS:
            return self.tell_side(words[0], number_of(words[1]))
        return None

    def hear_road(self, row):
        side = side_of_road(row)
        deeds = deeds_of(row, self.terms.lag)
        if self.walk is not None or side is None or deeds is None:
            return None
        self.deeds[side] = deeds
        return "ok"

    def hear_wish(self, row):
        wish = wish_of(row)
        if self.walk is not None or wish is None or len(self.wishes) == WISHES_MOST:
            return None
        self.wishes.append(wish)
        return "ok"

    def made_walk(self):
        if self.walk is None:
            self.walk = Walk(self.terms, (self.deeds[0], self.deeds[1]), self.wishes)
        return self.walk

    def go_to(self, turns):
        if turns is None or (self.walk is not None and turns < self.walk.turn):
            return None
        walk = self.made_walk()
        while walk.turn < turns:
            walk.step()
        return "ok"

    def run_to(self, turns):
        return None if turns is None else str(self.made_walk().run(turns))

    def tell_whole(self, word):
        walk = self.made_walk()
        if word == "quiet":
            return "yes" if walk.quiet() else "no"
        if word == "kept":
            return kept(walk)
        turns = reckoned(self.terms, self.deeds, self.wishes)
        return "none" if turns is None else str(turns)

    def tell_side(self, word, side):
        walk = self.made_walk()
        hand = walk.hands[side]
        if word == "state":
            return hand.name()
        if word == "stand":
            stand = [hand.sender.base, hand.sender.top, hand.sender.edge, hand.taker.got, hand.taker.out]
            return " ".join([str(number) for number in stand])
        return signs_of(walk.given_in(side) if word == "in" else walk.given_out(side))


class Desk:
    def __init__(self):
        self.talk = None
        self.rows_answered = 0

    def say(self, row):
        told = self.answer_to(row)
        if told is None:
            raise NoRow(self.rows_answered)
        self.rows_answered += 1
        return told

    def answer_to(self, row):
        if row.split(" ")[0] == "terms":
            return self.hear_terms(row)
        return None if self.talk is None else self.talk.hear_row(row)

    def hear_terms(self, row):
        terms = terms_of(row)
        if terms is None:
            return None
        self.talk = Talk(terms)
        return "ok"
