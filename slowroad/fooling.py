"""How wide a ring must be, and how a pair of a smaller ring is fooled."""

from slowroad.pair import check_pair


def need(room, lag):
    return 2 + lag // 2 if room == 1 else 2 * room + lag - 1


def fooling(ring, room, lag):
    check_pair(ring, room, lag)
    if ring >= need(room, lag):
        return []
    return fooling_one(ring) if room == 1 else fooling_many(ring, room)


def fooling_one(ring):
    # Place 0 goes again in turn 1, as its answer can't be there yet. It comes when got, which needs two turns for
    # each place more, has gone round once.
    turns = [([], [], 0), ([0], [], 0)]
    for place in range(1, ring):
        turns.append(([], [2 * place - 1], place))
        turns.append(([2 * place] if place < ring - 1 else [2 * place, 1], [], None))
    return turns


def fooling_many(ring, room):
    # Place 0, a ring on, is the last one that the taker has room for when got is this.
    goal = ring - room + 1
    # Till then no answer comes, so that place 0 may go again as late as the room lets it.
    again = min(goal, room)
    turns = [([], [], 0)]
    for turn in range(1, again):
        turns.append(([turn - 1], [], turn))
    turns.append(([again - 1], [], 0))
    for turn in range(again + 1, goal + 1):
        turns.append((coming_ahead_of(turn, again), [turn - 1], turn - 1))
    turns.append((coming_ahead_of(goal + 1, again) + [again], [], None))
    return turns


def coming_ahead_of(turn, kept_back):
    return [] if turn - 1 == kept_back else [turn - 1]
