"""Terms, roads and wishes by chance, for the tests of whole talks."""

from slowroad.fooling import need
from slowroad.terms import Terms

ALPHABET = "".join(chr(code) for code in range(32, 127) if code != 37)
TERMS = Terms(24, (5, 8), 6, 4, 30)
# Loses, doubles, keeps back, lets overtake, spoils.
BAD_DEEDS = [[(3, 0, 0)], [], [(1, 0, 0), (5, 0, 0)], [(2, 30, 9)], [(6, 0, 0), (1, 66, 255)], [(1, 0, 0)]]
WORSE_DEEDS = [[(6, 0, 0), (6, 0, 0)], [(1, 1, 1)], [], [(2, 0, 0)], [(1, 0, 0), (1, 8, 3), (4, 0, 0)]]


def some_terms(draw):
    while True:
        rooms = (draw.choice((1, 2, 5, 16)), draw.choice((1, 2, 3, 9)))
        lag = draw.choice((1, 2, 3, 7, 20, 32))
        least = max(need(room, lag) for room in rooms)
        if least <= 64:
            first = draw.randint(2, 8)
            ring = draw.choice((least, least, min(64, least + 1), 64))
            return Terms(ring, rooms, lag, first, draw.choice((first, first + 9, 64)))


def some_deed(draw, lag):
    many = draw.choice((0, 1, 1, 1, 2, 3))
    runs = (0, 0, 0, draw.randint(1, 255))
    return [(draw.choice((1, lag, draw.randint(1, lag))), draw.randrange(67), draw.choice(runs)) for i in range(many)]


def some_deeds(draw, lag):
    return [some_deed(draw, lag) for i in range(draw.randrange(7))]


def some_roads(draw, lag):
    return (some_deeds(draw, lag), some_deeds(draw, lag))


def some_wish(draw, last):
    word = draw.choice(("begin", "begin", "end", "end", "put", "put", "put", "read"))
    value = None
    if word == "put":
        value = "".join(draw.choice(ALPHABET) for i in range(draw.choice((1, 4, 5, 20, 60))))
    if word == "read":
        value = draw.choice((1, 2, 5, 60))
    return (draw.randint(0, last), draw.randrange(2), word, value)


def some_wishes(draw, most=25):
    last = draw.choice((0, 5, 40, 200))
    wishes = [some_wish(draw, last) for i in range(draw.randint(0, most - 1))]
    if draw.random() < 0.8:
        # Else most of them would be refused.
        wishes.insert(draw.randint(0, len(wishes)), (0, draw.randrange(2), "begin", None))
    return wishes
