"""Torn holes: notches that nobody cut, and what codes tell of them or mend."""

from needledeck.words import together, within


def comes_to(one, other, tears):
    """Tell whether a word comes to another one, or stays itself, by at most so many tears."""
    return within(one, other) and len(other) - len(one) <= tears


def tells(code, tears):
    """Tell whether no word of a code comes to another one by at most so many tears, or two such words."""
    for i, one in enumerate(code):
        for j, other in enumerate(code):
            if i != j and comes_to(one, other, tears):
                return ("torn", i, j)
    return ("tells",)


def mends(code, tears):
    """Tell whether no two words of a code come to the same word by at most so many tears each, or two such."""
    for j, other in enumerate(code):
        for i, one in enumerate(code[:j]):
            # Whatever both come to has the places of both, so this comes by the fewest tears.
            word = together(one, other)
            if comes_to(one, word, tears) and comes_to(other, word, tears):
                return ("same", i, j, word)
    return ("mends",)


def torn_of(code, tears, word):
    """Tell the numbers of the words of a code of which a word comes by at most so many tears."""
    return [number for number, one in enumerate(code) if comes_to(one, word, tears)]
