"""Chains: lists of words, each next one with one place more, that hold every word once."""

from needledeck.codes import choose, words_of
from needledeck.words import is_word, within


def grown(chain, place):
    """Tell the chains that hold a chain's words and the same words with a new last place."""
    longer = chain + [chain[-1] + (place,)]
    shorter = [word + (place,) for word in chain[:-1]]
    return [longer, shorter] if shorter else [longer]


def chains(holes):
    """Tell chains that are as many as there are words of half the places."""
    # Each goes from some k places up to all but k of the places: both that grow of it do so, too.
    # So each holds just one word of half the places, and there are no more chains than such words.
    told = [[()]]
    for place in range(holes):
        told = [chain for old in told for chain in grown(old, place)]
    return told


def is_chain(holes, thing):
    """Tell whether a thing is a list of one word or more, each next one with one place more."""
    if not isinstance(thing, list) or len(thing) == 0:
        return False
    for word in thing:
        if not is_word(holes, word):
            return False
    for lower, upper in zip(thing, thing[1:]):
        if len(upper) != len(lower) + 1 or not within(lower, upper):
            return False
    return True


def shows_most(holes, thing):
    """Tell whether a thing is chains of so many holes."""
    if not isinstance(thing, list):
        return False
    words = []
    for chain in thing:
        if not is_chain(holes, chain):
            return False
        words.extend(chain)
    # There are as many words as ways to cut or leave each hole; so many unlike ones are all of them.
    return len(words) == len(set(words)) and len(words) == (1 << holes)


def two_in(code, some):
    """Tell the numbers of two words of a code that stand in one chain, the first within the second."""
    numbers = {word: number for number, word in enumerate(code)}
    found = [[numbers[word] for word in chain if word in numbers] for chain in some]
    # The code has more words than there are chains, so the chain with most of them has two at least.
    fullest = max(found, key=len)
    return (fullest[0], fullest[1])


def most(holes):
    """Tell a plain code and chains that are as many as its words."""
    return (words_of(holes, holes // 2), chains(holes))


def fewest_holes(values):
    """Tell the fewest holes for so many values."""
    holes = 1
    while choose(holes, holes // 2) < values:
        holes += 1
    return holes
