"""Trees of cases, which show that questions follow."""

from cellsenough.base.checks import check_index, check_undo
from cellsenough.base.integers import is_integer
from cellsenough.errors import InvalidOperation
from cellsenough.solve.nodes import SINGLE, SIZES, SPLIT, branches_of, names_made
from cellsenough.solve.questions import check_question


def is_tree(question, value):
    """Whether the value is a tree of the question."""
    check_question(question)
    return _is_tree(question, value)


def are_trees_of(questions, value):
    """Whether the value is a tuple of trees of these questions, in their order."""
    if not isinstance(value, tuple) or len(value) != len(questions):
        return False
    for question, tree in zip(questions, value):
        if not _is_tree(question, tree):
            return False
    return True


def facts_at(question, tree, node):
    """The tuple of the facts known at a node."""
    check_question(question)
    if not _is_tree(question, tree):
        raise InvalidOperation("this is no tree of the question")
    check_index(node, len(tree))
    return _facts_at(question, tree, node)


class Closing:
    """A tree that is made step by step."""

    def __init__(self, question):
        check_question(question)
        self._question = question
        # What is open: numbers of nodes, with the facts and the made names there. The last one is the current one.
        self._open = [(0, question.facts, ())]
        # What was done: the node that was open, the node that it is now, and how many next ones it has.
        self._steps = []
        self._numbers = 1

    def part(self, fact, index):
        """Adds a part of a fact."""
        return self._go(("part", fact, index))

    def cases(self, fact):
        """Goes on with each case of a fact."""
        return self._go(("cases", fact))

    def new(self, fact, *names):
        """Makes names for which an all is false."""
        return self._go(("new", fact, names))

    def use(self, fact, *terms):
        """Uses an all at some terms."""
        return self._go(("at", fact, terms))

    def apart(self, one, other):
        """Goes on with each way in which two terms can be to one another."""
        return self._go(("apart", one, other))

    def same(self, array, fact):
        """Adds that cells at equal positions are equal."""
        return self._go(("same", array, fact))

    def outside(self, array, fact):
        """Adds that a cell outside of an array is 0."""
        return self._go(("outside", array, fact))

    def ring(self, *steps):
        """Closes the way by a ring."""
        return self._go(("ring", steps))

    @property
    def facts(self):
        """The tuple of the facts known at the current node."""
        if len(self._open) == 0:
            raise InvalidOperation("no node is open")
        return self._open[-1][1]

    @property
    def open_nodes(self):
        """The ascending tuple of the open nodes."""
        return tuple(sorted([number for number, _, _ in self._open]))

    @property
    def tree(self):
        """The tuple of the nodes."""
        if len(self._open) > 0:
            raise InvalidOperation("some node is open")
        nodes = {number: node for (number, _, _), node, _ in self._steps}
        return tuple([nodes[number] for number in sorted(nodes)])

    def undo(self, *, many=1):
        """Takes the last steps back, and returns how many nodes are open then."""
        check_undo(many, len(self._steps))
        for _ in range(many):
            place, _, nexts = self._steps.pop()
            self._open = self._open[:len(self._open) - nexts]
            self._open.append(place)
            self._numbers = self._numbers - nexts
        return len(self._open)

    def twin(self):
        """An equal one that goes on by itself."""
        other = Closing(self._question)
        other._open = list(self._open)
        other._steps = list(self._steps)
        other._numbers = self._numbers
        return other

    def _go(self, step):
        """Does a step at the current node, and returns its number."""
        if len(self._open) == 0:
            raise InvalidOperation("no node is open")
        place = self._open[-1]
        number, facts, made = place
        branches = branches_of(self._question.frame, facts, made, step)
        if branches is None:
            raise InvalidOperation("there is no such node here")
        nexts = tuple([self._numbers + index for index in range(len(branches))])
        self._open.pop()
        for following, added in list(zip(nexts, branches))[::-1]:
            self._open.append((following, (*facts, *added), (*made, *names_made(step))))
        self._steps.append((place, _node(step, nexts), len(nexts)))
        self._numbers = self._numbers + len(nexts)
        return number

    def __bool__(self):
        return not self._open

    def __len__(self):
        return len(self._steps)

    def __eq__(self, other):
        if not isinstance(other, Closing) or self._question != other._question:
            return False
        return [node for _, node, _ in self._steps] == [node for _, node, _ in other._steps]

    def __str__(self):
        return f"closing with {len(self._steps)} nodes, {len(self._open)} open"


def _node(step, nexts):
    """The node of a step, with its next ones."""
    if step[0] in SINGLE:
        return (*step, nexts[0])
    return (*step, nexts) if step[0] in SPLIT else step


def _step_and_nexts(node):
    """The step of a node and a tuple of its next ones, or None twice if it is none."""
    if not isinstance(node, tuple) or len(node) == 0 or not isinstance(node[0], str) or node[0] not in SIZES:
        return None, None
    size = SIZES[node[0]]
    if node[0] in SINGLE and len(node) == size + 1:
        return node[:size], node[size:]
    if node[0] in SPLIT and len(node) == size + 1 and isinstance(node[size], tuple):
        return node[:size], node[size]
    return (node, ()) if node[0] == "ring" and len(node) == size else (None, None)


def _is_tree(question, value):
    """Whether the value is a tree of the question."""
    if not isinstance(value, tuple) or len(value) == 0 or not _are_nexts_right(value):
        return False
    facts = []
    # Nodes that are still to be looked at, with how many facts are known ahead of what they add.
    left = [(0, 0, question.facts, ())]
    while left:
        number, known, added, made = left.pop()
        del facts[known:]
        facts.extend(added)
        step, nexts = _step_and_nexts(value[number])
        branches = branches_of(question.frame, facts, made, step)
        if branches is None or len(branches) != len(nexts):
            return False
        for following, more in zip(nexts, branches):
            left.append((following, len(facts), more, (*made, *names_made(step))))
    return True


def _are_nexts_right(nodes):
    """Whether all have the form of nodes, and each but the first one is named once, by one with a lower number."""
    named = {}
    for number, node in enumerate(nodes):
        step, nexts = _step_and_nexts(node)
        if step is None:
            return False
        for following in nexts:
            if not is_integer(following) or not number < following < len(nodes) or following in named:
                return False
            named[following] = True
    return len(named) == len(nodes) - 1


def _facts_at(question, tree, node):
    """The tuple of the facts known at a node of a right tree."""
    before = {}
    for number, told in enumerate(tree):
        for following in _step_and_nexts(told)[1]:
            before[following] = number
    way = [node]
    while way[-1] != 0:
        way.append(before[way[-1]])
    facts = list(question.facts)
    made = ()
    for number, following in zip(way[:0:-1], way[-2::-1]):
        step, nexts = _step_and_nexts(tree[number])
        facts.extend(branches_of(question.frame, facts, made, step)[nexts.index(following)])
        made = (*made, *names_made(step))
    return tuple(facts)
