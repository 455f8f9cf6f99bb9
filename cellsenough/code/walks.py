"""Walks through programs: from a beginning to the next loop that is asked, or behind the last row.

Beginnings and ends are told by the numbers of loops, and by -1 for those of the program.
"""


def walk_sizes(program):
    """For each beginning, ascending, how many walks there are from it on, and how many writes are on one, at most."""
    known = {}
    for number in reversed(range(len(program))):
        # Rows that come behind a row have greater numbers, but for loops.
        behind = [_size_ahead(program, known, after) for after in program.nexts(number)]
        more = 1 if program.row(number)[0] == "write" else 0
        known[number] = (sum([ways for ways, _ in behind]), more + max([writes for _, writes in behind]))
    return [_size_ahead(program, known, _first_row(program)), *[known[number] for number in program.loop_rows]]


def walks(program):
    """A list of all walks, by their beginnings and answers, as tuples (start, stop, answers, trail)."""
    found = _walks_from(program, -1, _first_row(program))
    for loop, number in enumerate(program.loop_rows):
        found.extend(_walks_from(program, loop, number))
    return found


def _first_row(program):
    """The first row of a program, or None."""
    return 0 if len(program) > 0 else None


def _size_ahead(program, known, row):
    """How many walks lead on from ahead of a row, and how many writes are on one, at most."""
    return (1, 0) if row is None or row in program.loop_rows else known[row]


def _walks_from(program, start, first):
    """A list of all walks from a beginning on, which begin with the row `first`."""
    loops = program.loop_rows
    found = []
    left = [(first, (), ())]
    while left:
        at, answers, trail = left.pop()
        if at is None or (at in loops and (start < 0 or len(trail) > 0)):
            found.append((start, -1 if at is None else loops.index(at), answers, trail))
            continue
        nexts = program.nexts(at)
        if len(nexts) == 1:
            left.append((nexts[0], answers, (*trail, at)))
            continue
        # What is put in last is taken first, so False comes ahead of True.
        left.append((nexts[0], (*answers, True), (*trail, at)))
        left.append((nexts[1], (*answers, False), (*trail, at)))
    return found
