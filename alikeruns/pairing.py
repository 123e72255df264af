"""The states of a world paired with the demand states of a detector. [51]"""

from alikeruns.bounds import MOST_MOVES, MOST_STATES
from alikeruns.choices import one_of_each
from alikeruns.errors import TooMany


class Pairing:
    """What can follow on a pair (state, demand state) of a world and a detector.

    heards has, for each state and each state to which it leads, what can be
    heard on the way; boxes has, for each demand state, each label (mark and
    live nodes) and each next demand state, the boxes of the rows between them.
    """

    def __init__(self, world, detector):
        self.labels = [(mark, live) for mark, live, _, _ in world.states]
        self.heards = [_heards(moves) for _, _, _, moves in world.states]
        self.boxes = [_boxes(rows) for rows in detector.states]
        self.starts = [(world.start, start) for start in detector.starts[0]]

    def reached(self):
        """The pairs that can be reached by at least one round, ascending; TooMany if they are too many states."""
        found = {}
        waiting = list(self.starts)
        while waiting:
            last = waiting.pop()
            for pair in self.nexts(last):
                if pair not in found:
                    found[pair] = True
                    waiting.append(pair)
            # The start is one more state.
            if len(found) + 1 > MOST_STATES:
                raise TooMany("states")
        return sorted(found)

    def nexts(self, pair):
        """The pairs to which a pair leads."""
        state, number = pair
        return [(to, later) for to in self.heards[state] for later in self._between(number, to)]

    def moves(self, pairs, numbers):
        """The moves of some pairs of one state together, in order; numbers has the state for each pair."""
        found = []
        targets = {target: True for pair in pairs for target in self.nexts(pair)}
        for target in targets:
            to, later = target
            rows = [boxes for _, number in pairs for boxes in self._between(number, to).get(later, [])]
            hints = _choices(rows)
            heards = self.heards[pairs[0][0]][to]
            if len(found) + len(heards) * len(hints) > MOST_MOVES:
                raise TooMany("moves")
            found.extend([(heard, told, numbers[target]) for heard in heards for told in hints])
        return sorted(found, key=_move_order)

    def _between(self, number, to):
        """For each next demand state the boxes of the rows of a demand state that fit a state."""
        return self.boxes[number].get(self.labels[to], {})


def _heards(moves):
    """For each state to which moves lead, what can be heard on the way."""
    found = {}
    for heard, _, to in moves:
        ways = found.setdefault(to, {})
        ways[heard] = True
    return {to: list(found[to]) for to in found}


def _boxes(rows):
    """For each label, and each next demand state, the boxes of the rows."""
    found = {}
    for mark, boxes, to in rows:
        live = tuple([node for node, box in enumerate(boxes) if box is not None])
        nexts = found.setdefault((mark, live), {})
        nexts.setdefault(to, []).append(boxes)
    return found


def _choices(rows):
    """Each choice of outputs from the boxes of one of the rows, once; TooMany if they are too many moves."""
    found = {}
    for boxes in rows:
        many = 1
        for box in boxes:
            many = many * (1 if box is None else len(box))
        if many > MOST_MOVES:
            raise TooMany("moves")
        for told in one_of_each([(None,) if box is None else box for box in boxes]):
            found[told] = True
        if len(found) > MOST_MOVES:
            raise TooMany("moves")
    return list(found)


def _move_order(move):
    heard, hints, to = move
    return (to, [() if others is None else others for others in heard],
            [() if hint is None else hint for hint in hints])
