"""The search for a best path from both sides, by a plan, and the answer with its paper."""

from heapq import heappop, heappush

from wholeways.errors import NoPlan
from wholeways.fields import Field

FORWARD = "forward"
BACKWARD = "backward"
BOTH = "both"
PLANS = ("forward", "backward", "both")


def need_plan(plan):
    if plan not in PLANS:
        raise NoPlan()


class Side:
    """The places to which a side came, with the least sums by which it did; it goes on from each once."""

    def __init__(self, places):
        self._sums = {}
        self._links = {}
        self._gone = {}
        self._queue = []
        for place in places:
            self.comes_to(place, 0, None)

    def comes_to(self, place, total, link):
        """It comes to a place by a sum, link telling the place it comes from and the step: whether it is nearer now."""
        if place in self._gone or total >= self._sums.get(place, total + 1):
            return False
        self._sums[place] = total
        self._links[place] = link
        heappush(self._queue, (total, place))
        return True

    def come_far(self):
        """The least sum of the places from which it has not gone on, None if there is none."""
        # a place that was come to again by a lesser sum stands in the queue twice
        while self._queue and self._queue[0][1] in self._gone:
            heappop(self._queue)
        return self._queue[0][0] if self._queue else None

    def taken(self):
        """The nearest of the places from which it has not gone on, the least of these; it goes on from there now."""
        self.come_far()
        _, place = heappop(self._queue)
        self._gone[place] = True
        return place

    def sum_at(self, place):
        """The sum by which it came to a place, None if it did not."""
        return self._sums.get(place)

    def sums_nearer(self, bound):
        """The dict from the places with sums below a bound to these."""
        return {place: total for place, total in self._sums.items() if total < bound}

    def all_sums(self):
        """The dict from all places to which it came to the sums."""
        return {place: total for place, total in self._sums.items()}

    def links_from(self, place):
        """The list of the pairs (place, step) by which it came to a place, the last one first."""
        found = []
        link = self._links[place]
        while link is not None:
            found.append(link)
            link = self._links[link[0]]
        return found


class Search:
    """Goes on from the beginning, and back from the ends."""

    def __init__(self, field):
        self._field = field
        self._front = Side(field.begin_places())
        self._back = Side(field.end_places())
        # the pair (sum, place) of the least way that was met
        self._met = None
        for place in field.begin_places():
            self._meet(place)

    def _meet(self, place):
        """A way is met if both sides came to the place."""
        front = self._front.sum_at(place)
        back = self._back.sum_at(place)
        if front is None or back is None:
            return
        if self._met is None or front + back < self._met[0]:
            self._met = (front + back, place)

    def how_far(self):
        """The pair of how far each side has come, None for one that has no place left."""
        return (self._front.come_far(), self._back.come_far())

    def is_over(self):
        """Whether a side has no place left, or both have come as far as the least way that was met."""
        front, back = self.how_far()
        if front is None or back is None:
            return True
        return self._met is not None and front + back >= self._met[0]

    def lead(self, plan):
        """Leads both sides by a plan to its end."""
        while not self.is_over():
            front, back = self.how_far()
            if plan == FORWARD or (plan == BOTH and front <= back):
                place = self._front.taken()
                self._go(self._front, place, self._field.steps_on(place))
            else:
                place = self._back.taken()
                self._go(self._back, place, self._field.steps_back(place))

    def _go(self, side, place, steps):
        come = side.sum_at(place)
        for other, step, weight in steps:
            if side.comes_to(other, come + weight, (place, step)):
                self._meet(other)

    def least_sum(self):
        """The sum of the least way, None if none was met."""
        return None if self._met is None else self._met[0]

    def answer(self):
        """The answer, with the values of places, or the closed lot, by which it can be judged."""
        front, _ = self.how_far()
        if self._met is None:
            side, word = (self._front, "from") if front is None else (self._back, "to")
            return ("none", word, tuple(sorted(side.all_sums())))
        total, place = self._met
        # nearer places have the sum from the beginning as value, those nearer to the ends what is left for them
        rest = total if front is None else min(front, total)
        sums = self._front.sums_nearer(rest)
        for other, left in self._back.sums_nearer(total - rest).items():
            sums[other] = total - left
        return ("path", self._path_by(place), rest, sums)

    def _path_by(self, place):
        path = []
        for (node, _), step in reversed(self._front.links_from(place)):
            path.extend([node, step])
        path.append(place[0])
        for (node, _), step in self._back.links_from(place):
            path.extend([step, node])
        return tuple(path)


def searched(ground, question, plan):
    """The search of a question by a plan, led to its end."""
    search = Search(Field(ground, question))
    search.lead(plan)
    return search


def spread(field):
    """The side of the beginning, come to all places to which steps lead."""
    side = Side(field.begin_places())
    while side.come_far() is not None:
        place = side.taken()
        come = side.sum_at(place)
        for other, step, weight in field.steps_on(place):
            side.comes_to(other, come + weight, (place, step))
    return side
