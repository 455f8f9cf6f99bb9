"""What is known on one way of a search: facts, and what they come to."""

from cellsenough.decide.bounds import Bounds
from cellsenough.decide.forms import form_of
from cellsenough.solve.differing import literal_differences
from cellsenough.solve.nodes import cases_of, denied_at, part_of, said_at

LETTERS = "pqrstuvwyzbcdefghlmoaijknx"


def fresh_names(frame, many):
    """A list of so many different names that are fresh for the frame."""
    # Most frames leave enough letters, and most questions need few of them.
    found = [name for name in LETTERS if name not in frame] if many > 0 else []
    if len(found) < many:
        found.extend([one + other for one in LETTERS for other in LETTERS if one + other not in frame])
    return found[:many]


class Branch:
    """The facts of a way, with all parts of ands, new names for alls that are false, and the bounds of atoms."""

    def __init__(self, question):
        self.basis = question.frame
        self.bounds = {"pos": Bounds(), "val": Bounds()}
        # The numbers of facts that are alls; facts that have cases, with the forms of these; and what was done.
        self.alls = []
        self.open_facts = []
        self.made = []
        self.done = []
        self._names = fresh_names(question.frame, len(question.fresh))
        self._claims = []
        # Facts that were split, pairs of alls and terms, atoms of positions with their facts, and steps.
        self._seen = {}
        self._log = []
        self._left = [self._number(fact) for fact in question.facts]

    def claim_of(self, fact):
        """The claim of a fact."""
        return self._claims[fact]

    def seen(self, key):
        """What was told of the key on this way, or None."""
        return self._seen.get(key)

    def see(self, key, told):
        """Tells something of a key on this way."""
        if key not in self._seen:
            self._seen[key] = told
            self._log.append(key)

    def add(self, claim):
        """Adds a claim that a split adds, and returns the number of the fact."""
        fact = self._number(claim)
        self._left.append(fact)
        return fact

    def step(self, what, uses, claims):
        """Does a step, which adds claims."""
        adds = [self.add(claim) for claim in claims]
        self.done.append((what, uses, adds))

    def use(self, fact, terms):
        """Uses an all at some terms."""
        self.see(("at", fact, terms), True)
        self.step(("at", fact, terms), [fact, *self.names_in(terms)], [said_at(self._claims[fact], terms)])

    def names_in(self, terms):
        """A list of the made names that stand in terms."""
        return [name for name, _ in terms if name in self.made]

    def settle(self):
        """Takes in all facts that were added. If a ring is closed, a list of its tags is returned."""
        while self._left:
            fact = self._left.pop(0)
            found = self._take(fact)
            if found is not None:
                self._left = []
                return found
        return None

    def marks(self):
        """The marks of what is known; the first one is the number of steps that were done."""
        bounds = (self.bounds["pos"].mark(), self.bounds["val"].mark())
        return (len(self.done), len(self.alls), len(self.open_facts), len(self.made), len(self._log), *bounds)

    def back_to(self, marks):
        """Takes back all that came behind the marks."""
        done, alls, open_facts, made, log, places, amounts = marks
        del self.done[done:]
        del self.alls[alls:]
        del self.open_facts[open_facts:]
        del self.made[made:]
        while len(self._log) > log:
            del self._seen[self._log.pop()]
        self.bounds["pos"].back_to(places)
        self.bounds["val"].back_to(amounts)

    def _number(self, claim):
        """The number of a new fact."""
        self._claims.append(claim)
        return len(self._claims) - 1

    def _take(self, fact):
        """Takes in a fact; the tags of a ring if one is closed."""
        claim = self._claims[fact]
        differences = literal_differences(claim)
        if differences is not None:
            return self._take_atom(fact, claim, differences)
        found = cases_of(claim)
        if found is not None:
            self.open_facts.append((fact, [form_of(case) for case in found]))
        elif claim[0] == "all":
            self.alls.append(fact)
        elif claim[0] == "not" and claim[1][0] == "all":
            self._take_denied(fact, claim[1])
        else:
            self._take_parts(fact, claim)
        return None

    def _take_atom(self, fact, claim, differences):
        """Takes in an atom or a not of one."""
        word = claim[1][0] if claim[0] == "not" else claim[0]
        if claim[0] == "pos":
            self.see(claim, fact)
        for way, (one, other, number) in enumerate(differences):
            found = self.bounds[word].add(one, other, number, (fact, way))
            if found is not None:
                return found
        return None

    def _take_denied(self, fact, claim):
        """Makes names for an all that is false."""
        names = tuple(self._names[len(self.made):len(self.made) + len(claim[1])])
        self.made.extend(names)
        self.step(("new", fact, names), [fact], denied_at(claim, names))

    def _take_parts(self, fact, claim):
        """Adds all parts of a claim that has parts."""
        index = 0
        part = part_of(claim, index)
        while part is not None:
            self.step(("part", fact, index), [fact], [part])
            index += 1
            part = part_of(claim, index)
