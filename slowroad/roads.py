"""Roads carry frames one way: a row of deeds tells what becomes of each sending."""

from slowroad.bounds import is_from
from slowroad.errors import BadRoad

LAG_MOST = 60
DEEDS_MOST = 60
COPIES_MOST = 3
PLACE_MOST = 66
RUN_MOST = 255


def copied(deeds):
    return [list(deed) for deed in deeds]


def deed_at(deeds, sending):
    if len(deeds) == 0:
        return [(1, 0, 0)]
    return list(deeds[sending % len(deeds)])


def rule(deeds):
    row = copied(deeds)

    def deed_of(sending):
        return deed_at(row, sending)

    return deed_of


def has_whole_copy(deed):
    return any([copy[2] == 0 for copy in deed])


def fairness(deeds):
    if len(deeds) == 0:
        return 1
    whole = [at for at, deed in enumerate(deeds) if has_whole_copy(deed)]
    if len(whole) == 0:
        return None
    # The row goes round, so behind the last whole one comes the first one again.
    later = whole[1:] + [whole[0] + len(deeds)]
    return max([after - at for at, after in zip(whole, later)])


def is_copy(copy, lag):
    return (
        isinstance(copy, tuple)
        and len(copy) == 3
        and is_from(copy[0], 1, lag)
        and is_from(copy[1], 0, PLACE_MOST)
        and is_from(copy[2], 0, RUN_MOST)
    )


def is_deed(deed, lag):
    return len(deed) <= COPIES_MOST and all([is_copy(copy, lag) for copy in deed])


def check_road(deeds, lag):
    if not is_from(lag, 1, LAG_MOST) or len(deeds) > DEEDS_MOST:
        raise BadRoad(None)
    for at, deed in enumerate(deeds):
        if not is_deed(deed, lag):
            raise BadRoad(at)


class Road:
    def __init__(self, deeds, lag):
        check_road(deeds, lag)
        self.deeds = copied(deeds)
        self.sendings = 0
        # Tuples (turn of coming, sending, place in the deed, frame as it comes): sorted, they stand as they are told.
        self.coming = []

    def send(self, turn, frame):
        sending = self.sendings
        self.sendings += 1
        for order, copy in enumerate(deed_at(self.deeds, sending)):
            self.coming.append((turn + copy[0], sending, order, frame ^ (copy[2] << copy[1])))
        return sending

    def come(self, turn):
        due = sorted([copy for copy in self.coming if copy[0] <= turn])
        self.coming = [copy for copy in self.coming if copy[0] > turn]
        return [(copy[1], copy[3]) for copy in due]

    def under_way(self):
        return len(self.coming)
