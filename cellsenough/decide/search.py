"""The search for a situation that breaks a question, or for a tree that shows that it follows.

It guesses a situation that agrees with what is known, looks for what is wrong in it, and goes on with the cases of
this. A way on which nothing can be right is closed; what was not needed for this is left out.
"""

from cellsenough.decide.branches import Branch
from cellsenough.decide.clashes import clash_of
from cellsenough.decide.forms import form_of, verdict
from cellsenough.decide.guesses import add_equalities, guessed_places, guessed_rows, guessed_values
from cellsenough.decide.instances import failing_terms
from cellsenough.decide.proofs import Proof, Split, tree_of
from cellsenough.solve.nodes import cases_of, compared
from cellsenough.world.situations import made_situation
from cellsenough.world.truth import is_true


def decided(question):
    """("broken", situation) with a situation of few cells, or ("follows", tree)."""
    search = Search(question)
    proof = None
    while search.found is None and search.closed is None:
        proof = search.advance() if proof is None else search.retreat(proof)
    if search.found is not None:
        return ("broken", question.shrunk(search.found))
    return ("follows", tree_of(search.closed, len(question.facts)))


def does_follow(question):
    """Whether the question follows."""
    return decided(question)[0] == "follows"


def all_follow(questions):
    """Whether all questions follow. No more is searched than is needed for this."""
    for question in questions:
        if not does_follow(question):
            return False
    return True


class Search:
    """A search, which ends with a situation or a proof."""

    def __init__(self, question):
        self.found = None
        self.closed = None
        self._branch = Branch(question)
        self._members = [term for term in question.members if term[0] not in question.fresh]
        self._splits = []

    def advance(self):
        """Goes on with what is known. If the way is closed, the proof of this is returned, else None."""
        tags = self._branch.settle()
        if tags is not None:
            return Proof(("ring", tags), [fact for fact, _ in tags])
        chosen = self._forced_cases()
        if chosen is not None:
            return self._split_cases(*chosen)
        frame, places, amounts = self._branch.basis, self._branch.bounds["pos"], self._branch.bounds["val"]
        cells = [point for point in amounts.points() if isinstance(point, tuple)]
        numbers = guessed_places(places, [*self._branch.made, *frame.positions], frame.lengths, cells)
        mark = amounts.mark()
        tags = add_equalities(amounts, frame, numbers)
        if tags is not None:
            amounts.back_to(mark)
            return self._resolve(tags, numbers)
        values = guessed_values(amounts, frame, numbers)
        amounts.back_to(mark)
        return self._look_at(guessed_rows(frame, numbers, values), {**values, **numbers})

    def retreat(self, proof):
        """Closes a way by its proof and begins the next one. If no way is left, the whole proof is there."""
        while self._splits:
            split = self._splits[-1]
            proof.take_all(self._branch.done[split.place[0]:])
            self._branch.back_to(split.place)
            if proof.needs(split.fact):
                split.close(proof)
                if split.has_more():
                    split.begin(self._branch.add(split.next_claim()))
                    return None
                proof = split.proof()
            self._splits.pop()
        proof.take_all(self._branch.done)
        self.closed = proof
        return None

    def _forced_cases(self):
        """A fact of which at most one case is possible, with the verdicts of its cases, or None."""
        found = None
        for fact, forms in list(self._branch.open_facts):
            if self._branch.seen(fact) is not None:
                continue
            verdicts = [verdict(form, self._branch.bounds) for form in forms]
            if True in verdicts:
                # One of its cases stays true on this way, so it needs no other look.
                self._branch.see(fact, True)
                continue
            many = verdicts.count(None)
            if many == 0:
                return (fact, verdicts)
            if many == 1 and found is None:
                found = (fact, verdicts)
        return found

    def _look_at(self, rows, numbers):
        """Looks for what is wrong in a guess, and goes on with it. The situation is there if nothing is."""
        frame = self._branch.basis
        if self._use_alls(rows, numbers):
            return None
        chosen = self._wrong_cases(rows, numbers)
        if chosen is not None:
            return self._split_cases(*chosen)
        positions = {name: numbers[name] for name in frame.positions}
        self.found = made_situation(frame, rows, positions, {name: numbers[name] for name in frame.amounts})
        return None

    def _use_alls(self, rows, numbers):
        """Uses alls that are false in the guess; whether there are any."""
        members = [*[(name, 0) for name in self._branch.made], *self._members]
        is_used = False
        for fact in list(self._branch.alls):
            terms = failing_terms(self._branch, members, fact, rows, numbers)
            if terms is not None:
                self._branch.use(fact, terms)
                is_used = True
        return is_used

    def _wrong_cases(self, rows, numbers):
        """A fact that is false in the guess, with the verdicts of its cases, few of them possible; or None."""
        best = None
        for fact, forms in list(self._branch.open_facts):
            if self._branch.seen(fact) is None and not is_true(rows, numbers, self._branch.claim_of(fact)):
                verdicts = [verdict(form, self._branch.bounds) for form in forms]
                if best is None or verdicts.count(None) < best[1].count(None):
                    best = (fact, verdicts)
        return best

    def _resolve(self, tags, numbers):
        """Goes on where cells at equal places, or outside, cannot be as they should be."""
        clash = clash_of(self._branch, tags, numbers)
        if clash[0] != "apart":
            self._branch.step(*clash)
            return None
        _, one, other = clash
        claims = compared(one, other)
        verdicts = [verdict(form_of(claim), self._branch.bounds) for claim in claims]
        # What was so in the guess has failed, so it comes last.
        later = [at for at in range(3) if is_true({}, numbers, claims[at])]
        return self._split(("apart", one, other), self._branch.names_in((one, other)), claims, verdicts, later)

    def _split_cases(self, fact, verdicts):
        """Splits a fact into its cases."""
        self._branch.see(fact, True)
        claims = cases_of(self._branch.claim_of(fact))
        return self._split(("cases", fact), [fact], claims, verdicts, [])

    def _split(self, what, uses, claims, verdicts, later):
        """Begins the first way of a split, impossible ones ahead of others."""
        # The last case comes first: behind the guard of an all, it is its body, which decides more than the guard.
        indices = list(range(len(claims)))[::-1]
        order = [at for at in indices if verdicts[at] is False]
        order.extend([at for at in indices if verdicts[at] is not False and at not in later])
        order.extend([at for at in later if verdicts[at] is not False])
        split = Split(what, uses, claims, order, self._branch.marks())
        if not split.has_more():
            return split.proof()
        self._splits.append(split)
        split.begin(self._branch.add(split.next_claim()))
        return None
