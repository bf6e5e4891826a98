"""How many turns a walk takes at most, reckoned ahead of it."""

from slowroad.pieces import SIGNS_MOST
from slowroad.roads import fairness
from slowroad.walk import last_turn_of

THINGS_OF_BEGIN = 4


def things_of(wish):
    if wish[2] == "begin":
        return THINGS_OF_BEGIN
    if wish[2] == "put":
        return (len(wish[3]) + SIGNS_MOST - 1) // SIGNS_MOST
    return 0


def things_at_most(wishes):
    return sum([things_of(wish) for wish in wishes])


def reckoned(terms, roads, wishes):
    fair = [fairness(deeds) for deeds in roads]
    if None in fair:
        return None
    greater = max(fair)
    lag = terms.lag
    rounds = 4 * things_at_most(wishes) + sum(terms.rooms) + 1
    turns = greater * (greater * terms.longest + lag) + 2 * lag + 4
    return last_turn_of(wishes) + 1 + rounds * turns + 2 * lag + 4
