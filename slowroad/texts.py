"""Walks as texts: kept, and read again."""

from slowroad.errors import NoRow
from slowroad.forms import (
    deeds_of, row_of_numbers, row_of_road, row_of_terms, row_of_wish, side_of_road, terms_of, turns_of, wish_of,
)
from slowroad.walk import SIDES, WISHES_MOST, Walk


def kept(walk):
    rows = [row_of_terms(walk.terms)]
    rows.extend([row_of_road(side, walk.deeds[side]) for side in SIDES])
    rows.extend([row_of_wish(wish) for wish in walk.wishes])
    rows.append(row_of_numbers("turn", [walk.turn]))
    return "\n".join(rows)


def walk_of(text):
    rows = text.split("\n")
    terms = terms_at_top(rows)
    roads = (deeds_at(rows, 0, terms.lag), deeds_at(rows, 1, terms.lag))
    wishes = wishes_in(rows)
    last = 3 + len(wishes)
    turns = turns_at(rows, last)
    if len(rows) > last + 1:
        raise NoRow(last + 1)
    walk = Walk(terms, roads, wishes)
    while walk.turn < turns:
        walk.step()
    return walk


def row_at(rows, at):
    if at >= len(rows):
        raise NoRow(len(rows))
    return rows[at]


def terms_at_top(rows):
    terms = terms_of(row_at(rows, 0))
    if terms is None:
        raise NoRow(0)
    return terms


def deeds_at(rows, side, lag):
    at = 1 + side
    row = row_at(rows, at)
    deeds = deeds_of(row, lag) if side_of_road(row) == side else None
    if deeds is None:
        raise NoRow(at)
    return deeds


def wishes_in(rows):
    wishes = []
    for at, row in enumerate(rows[3:], 3):
        wish = wish_of(row)
        if wish is None:
            return wishes
        if len(wishes) == WISHES_MOST:
            raise NoRow(at)
        wishes.append(wish)
    return wishes


def turns_at(rows, at):
    turns = turns_of(row_at(rows, at), "turn")
    if turns is None:
        raise NoRow(at)
    return turns
