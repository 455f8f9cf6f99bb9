"""Which claims follow from which other ones."""

from cellsenough.decide.search import decided


def truths_of(questions, claims, known):
    """A dict from pairs of keys of claims to whether the question of the pair follows.

    `questions` is a dict from all pairs: from the first claim of a pair, and some that are the same for all pairs,
    the second one is wanted. `known` has the answers that are known already.
    """
    found = {}
    # Which claims are true in situations that were found. One of these often breaks other questions, too.
    shown = []
    for pair in questions:
        one, other = pair
        if pair in known:
            found[pair] = known[pair]
        elif any([truth[one] and not truth[other] for truth in shown]):
            found[pair] = False
        else:
            word, told = decided(questions[pair])
            found[pair] = word == "follows"
            if word == "broken":
                shown.append({key: told.knows(claims[key]) for key in claims})
    return found
