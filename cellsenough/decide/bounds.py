"""The tightest bounds between points, kept while differences are added and taken back."""


class Bounds:
    """Differences that fit, each with a tag that tells where it comes from."""

    def __init__(self):
        # For each point and each one that it is bounded by: by how much it can exceed that one, and why.
        self._rows = {}
        # For each point, all those that are bounded by it.
        self._into = {}
        self._log = []

    def points(self):
        """A list of all points that were touched."""
        return list(self._rows)

    def touch(self, point):
        """Takes in a point."""
        if point not in self._rows:
            self._rows[point] = {point: (0, None)}
            self._into[point] = {point: True}
            self._log.append((point, point, None))

    def bound(self, one, other):
        """By how much `one` can exceed `other`, or None."""
        if one not in self._rows:
            return None
        found = self._rows[one].get(other)
        return None if found is None else found[0]

    def add(self, one, other, number, tag):
        """Adds a difference. If it closes a ring, a list of the ring's tags is returned, and nothing is added."""
        self.touch(one)
        self.touch(other)
        back = self._rows[other].get(one)
        if back is not None and back[0] + number < 0:
            return [tag, *_tags_of(back[1])]
        known = self._rows[one].get(other)
        if known is None or number < known[0]:
            self._spread(one, other, number, tag)
        return None

    def limits(self, numbers, point):
        """The least and the greatest number that the point can have beside the numbers of others, or None for each."""
        row, column = self._rows.get(point, {}), self._into.get(point, {})
        least = [numbers[other] - self._rows[other][point][0] for other in column if other in numbers]
        greatest = [numbers[other] + row[other][0] for other in row if other in numbers]
        return max(least, default=None), min(greatest, default=None)

    def mark(self):
        """A mark to which all that comes behind it can be taken back."""
        return len(self._log)

    def back_to(self, mark):
        """Takes back all that came behind the mark."""
        while len(self._log) > mark:
            one, other, before = self._log.pop()
            if before is not None:
                self._rows[one][other] = before
                continue
            del self._rows[one][other]
            del self._into[other][one]
            if one == other:
                del self._rows[one]
                del self._into[one]

    def _spread(self, one, other, number, tag):
        """Takes over a tighter bound into all bounds that it makes tighter."""
        # Where the bound by the other point does not get tighter, no bound behind it does; likewise for targets.
        sources = [(point, *self._rows[point][one]) for point in self._into[one]]
        sources = [told for told in sources if self._is_tighter(told[0], other, told[1] + number)]
        targets = [(point, *self._rows[other][point]) for point in self._rows[other]]
        targets = [told for told in targets if self._is_tighter(one, told[0], number + told[1])]
        for source, first, why in sources:
            row = self._rows[source]
            for target, second, why_behind in targets:
                total = first + number + second
                before = row.get(target)
                if before is None or total < before[0]:
                    row[target] = (total, (why, tag, why_behind))
                    self._into[target][source] = True
                    self._log.append((source, target, before))

    def _is_tighter(self, one, other, number):
        """Whether the number is less than the bound of two points."""
        known = self._rows[one].get(other)
        return known is None or number < known[0]


def _tags_of(why):
    """A list of the tags of a way, in its order."""
    found = []
    left = [why]
    while left:
        part = left.pop()
        if part is None:
            continue
        before, tag, behind = part
        if before is None:
            found.append(tag)
            left.append(behind)
        else:
            left.extend([behind, (None, tag, None), before])
    return found
