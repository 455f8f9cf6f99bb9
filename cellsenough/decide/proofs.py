"""Ways that are closed, and the trees that are made of them.

A fact has a number of its own in the whole search. A step is a tuple (what, uses, adds) of a node without its next
one, of the facts and made names that it uses, and of the facts that it adds; in `what`, the numbers of facts are those
of the search.
"""

from cellsenough.solve.nodes import names_made


class Proof:
    """What closes a way: an end, and steps ahead of it. Only steps that are needed are taken in."""

    def __init__(self, end, needed):
        # The end is ("ring", tags), or ("split", what, ways) with pairs of a fact and a proof.
        self.end = end
        # The steps that were taken in, the last one first.
        self.taken = []
        self._needed = {fact: True for fact in needed}

    def needs(self, fact):
        """Whether the fact is needed."""
        return fact in self._needed

    def needed(self):
        """A list of the facts and made names that are needed."""
        return list(self._needed)

    def take_all(self, steps):
        """Takes in those of the steps, which come ahead of all that were taken in, that are needed."""
        for what, uses, adds in steps[::-1]:
            given = [*adds, *names_made(what)]
            if not any([fact in self._needed for fact in given]):
                continue
            self.taken.append((what, adds))
            for fact in given:
                self._needed.pop(fact, None)
            for fact in uses:
                self._needed[fact] = True


class Split:
    """A node with several ways, which are closed one after the other, and the marks of what was known there."""

    def __init__(self, what, uses, claims, order, marks):
        self.what = what
        self._claims = claims
        self.place = marks
        self.fact = None
        self._uses = uses
        self._left = order[::-1]
        self._ways = {}
        self._now = None

    def has_more(self):
        """Whether a way is still to be gone."""
        return len(self._left) > 0

    def begin(self, fact):
        """Begins the next way, which adds the fact with this number."""
        self._now = self._left.pop()
        self.fact = fact

    def next_claim(self):
        """The claim that the next way adds."""
        return self._claims[self._left[-1]]

    def close(self, proof):
        """Keeps the proof that closes the way that was begun last."""
        self._ways[self._now] = (self.fact, proof)

    def proof(self):
        """The proof that all ways together are."""
        needed = list(self._uses)
        for at in self._ways:
            fact, proof = self._ways[at]
            needed.extend([other for other in proof.needed() if other != fact])
        ways = [self._ways[at] for at in sorted(self._ways)]
        return Proof(("split", self.what, ways), needed)


def tree_of(proof, facts):
    """The tree that a proof is, where so many facts are known at first, with the numbers from 0 on."""
    numbers = {fact: fact for fact in range(facts)}
    nodes = [None]
    left = [(proof, 0, facts)]
    while left:
        part, node, known = left.pop()
        for what, adds in part.taken[::-1]:
            nodes[node] = (*_numbered(what, numbers), len(nodes))
            node = len(nodes)
            nodes.append(None)
            for fact in adds:
                numbers[fact] = known
                known += 1
        if part.end[0] == "ring":
            nodes[node] = ("ring", tuple([(numbers[fact], way) for fact, way in part.end[1]]))
            continue
        _, what, ways = part.end
        nodes[node] = (*_numbered(what, numbers), tuple([len(nodes) + at for at in range(len(ways))]))
        for fact, way in ways:
            numbers[fact] = known
            left.append((way, len(nodes), known + 1))
            nodes.append(None)
    return tuple(nodes)


def _numbered(what, numbers):
    """A node without its next ones, with the numbers that facts have on the way."""
    kind = what[0]
    if kind in ("part", "cases", "new", "at"):
        return (kind, numbers[what[1]], *what[2:])
    return (kind, what[1], numbers[what[2]]) if kind in ("same", "outside") else what
