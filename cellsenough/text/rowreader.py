"""How rows are read. Nothing is read by recursion, as texts can be nested deeper than rows."""

from cellsenough.text.claimreader import read_claim_of

WORDS = ("if", "while")


def read_rows_of(scanner):
    """Reads rows, up to the end of the text."""
    if scanner.next_sign() == "":
        return ()
    blocks = [Block("", ())]
    while True:
        row = _begun(scanner, blocks)
        while row is not None:
            rows = blocks[-1].inner
            rows.append(row)
            if len(blocks) == 1:
                if scanner.next_sign() == "":
                    return tuple(rows)
                scanner.literal("; ")
                row = None
            elif scanner.choice(("; ", " }")) == "; ":
                row = None
            else:
                block = blocks.pop()
                row = _closed(scanner, blocks, block.opened, (*block.ahead, tuple(rows)))


class Block:
    """Rows that are being read: the word that they belong to, what was read of it ahead of them, and the rows."""

    def __init__(self, word, ahead):
        self.opened = word
        self.ahead = ahead
        self.inner = []


def _begun(scanner, blocks):
    """Reads the row that begins here. It is returned if it is whole, else None, and a block is open for it."""
    frame = scanner.basis
    names = [*frame.positions, *frame.amounts, *[array for array, _ in frame.arrays]]
    word = scanner.word((*names, *WORDS))
    if word not in names or (word in WORDS and _is_keyword(scanner, word)):
        scanner.literal(" ")
        condition = read_claim_of(scanner, "condition")
        scanner.literal(" {")
        return _opened(scanner, blocks, word, (condition,))
    if frame.kind_of(word) == "array":
        scanner.literal("[")
        place = scanner.position(())
        scanner.literal("] = ")
        return ("write", word, *place, scanner.amount(()))
    scanner.literal(" = ")
    if frame.kind_of(word) == "position":
        return ("move", word, scanner.position(()))
    return ("keep", word, scanner.amount(()))


def _is_keyword(scanner, word):
    """Whether a word that is a name, too, is none here, by what stands behind it."""
    if scanner.basis.kind_of(word) == "array":
        return not scanner.is_at("[")
    return scanner.is_at(" ") and not scanner.is_at(" =")


def _opened(scanner, blocks, word, ahead):
    """Reads what stands behind a brace, up to the first row; the whole if there is none."""
    scanner.literal(" ")
    if scanner.next_sign() == "}":
        scanner.literal("}")
        return _closed(scanner, blocks, word, (*ahead, ()))
    blocks.append(Block(word, ahead))
    return None


def _closed(scanner, blocks, word, parts):
    """The row of a block that ends here, or None if a block for its other rows is open."""
    if word == "if":
        scanner.literal(" else {")
        return _opened(scanner, blocks, "else", parts)
    return ("if" if word == "else" else word, *parts)
