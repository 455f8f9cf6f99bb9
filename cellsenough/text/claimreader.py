"""How claims are read. Nothing is read by recursion, as texts can be nested deeper than claims."""

SIGNS = (" <= ", " < ", " == ")
GUARD_SIGNS = (" <= ", " == ")
# What can stand as a word in the claims of each role.
WORDS = {"claim": ("not", "and", "or", "all"), "condition": ("not", "and", "or"), "guard": ("and", "or"),
         "body": ("not", "and", "or")}


def read_claim_of(scanner, role):
    """Reads a "claim", or a "condition", in which no all stands."""
    levels = [Level("", role, ())]
    while True:
        claim = _begun(scanner, levels)
        while claim is not None and len(levels) > 1:
            claim = _continued(scanner, levels, claim)
        if claim is not None:
            return claim


class Level:
    """What is being read: the word that is open, what is read in it, and what was read of it."""

    def __init__(self, word, role, own):
        self.opened = word
        self.role = role
        self.own = own
        self.parts = []


def _begun(scanner, levels):
    """Reads what begins here. It is returned if it is whole, else None, and a level is open for it."""
    level = levels[-1]
    if level.role == "guard":
        if scanner.next_sign() == "[":
            return _guard_atom(scanner, level.own)
        return _opened(scanner, levels, scanner.word(WORDS["guard"]))
    if level.role != "body" and scanner.next_sign() == "[":
        return _places(scanner)
    if not scanner.is_at_letter():
        return _amounts(scanner, ("", scanner.number()), level.own)
    frame = scanner.basis
    names = [*frame.amounts, *[array for array, _ in frame.arrays]]
    word = scanner.word((*names, *WORDS[level.role]))
    if word in names and not _is_keyword(scanner, word, level.role):
        return _amounts(scanner, scanner.amount_of(word, level.own), level.own)
    return _opened(scanner, levels, word)


def _is_keyword(scanner, word, role):
    """Whether a word that is a name, too, is none here, by what stands behind it."""
    if word not in WORDS[role]:
        return False
    if scanner.basis.kind_of(word) == "array":
        return not scanner.is_at("[")
    if word != "all":
        return scanner.is_at("(")
    return scanner.is_at(" ") and not (scanner.is_at(" <") or scanner.is_at(" ="))


def _opened(scanner, levels, word):
    """Reads what stands behind a word up to the first claim in it; the whole if there is none."""
    level = levels[-1]
    if word == "all":
        scanner.literal(" ")
        own = (scanner.fresh_name(()),)
        if scanner.choice((", ", " (")) == ", ":
            own = (*own, scanner.fresh_name(own))
            scanner.literal(" (")
        levels.append(Level("guard", "guard", own))
        return None
    scanner.literal("(")
    if word != "not" and scanner.next_sign() == ")":
        scanner.literal(")")
        return (word, ())
    levels.append(Level(word, level.role, level.own))
    return None


def _continued(scanner, levels, claim):
    """Reads what stands behind a claim in the last level; the whole if it ends there, else None."""
    level = levels[-1]
    if level.opened == "guard":
        scanner.literal(" -> ")
        levels.pop()
        behind = Level("body", "body", level.own)
        behind.parts.append(claim)
        levels.append(behind)
        return None
    level.parts.append(claim)
    if level.opened in ("and", "or") and scanner.choice((")", ", ")) == ", ":
        return None
    if level.opened not in ("and", "or"):
        scanner.literal(")")
    levels.pop()
    if level.opened == "body":
        return ("all", level.own, *level.parts)
    return ("not", claim) if level.opened == "not" else (level.opened, tuple(level.parts))


def _sign(scanner, signs):
    """Reads how two terms compare."""
    return scanner.choice(signs).strip()


def _places(scanner):
    """Reads an atom of positions."""
    scanner.literal("[")
    one = scanner.position(())
    op = _sign(scanner, SIGNS)
    other = scanner.position(())
    scanner.literal("]")
    return ("pos", op, one, other)


def _guard_atom(scanner, own):
    """Reads an atom of a guard, in which an own name stands."""
    scanner.literal("[")
    one = scanner.position(own)
    op = _sign(scanner, GUARD_SIGNS)
    other = scanner.position(own) if one[0] in own else (scanner.word(own), 0)
    scanner.literal("]")
    return ("pos", op, one, other)


def _amounts(scanner, one, own):
    """Reads what stands in an atom of values behind its first term."""
    op = _sign(scanner, SIGNS)
    return ("val", op, one, scanner.amount(own))
