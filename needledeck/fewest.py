"""Fewest places: as few as part all cards of a deck, with pairs that show that no fewer do."""

from needledeck.codes import words_of
from needledeck.words import is_whole, is_word


def notches_at(card, places):
    """Tell at which of the places a card is notched."""
    return tuple([place for place in places if place in card])


def alike_at(deck, places):
    """Tell the numbers (i, j) of two cards of a deck that are notched alike at the places, or None."""
    seen = {}
    for j, card in enumerate(deck):
        notches = notches_at(card, places)
        if notches in seen:
            return (seen[notches], j)
        seen[notches] = j
    return None


def fewest_places(holes, deck):
    """Tell places that part a deck, and pairs for all that are one fewer, or two cards that are alike."""
    same = alike_at(deck, tuple(range(holes)))
    if same is not None:
        return ("same", same[0], same[1])
    many = 0
    pairs = []
    while True:
        met = []
        for places in words_of(holes, many):
            pair = alike_at(deck, places)
            # No two cards are alike, so all places part them, if none of fewer do.
            if pair is None:
                return ("places", places, pairs)
            met.append(pair)
        pairs = sorted(set(met))
        many += 1


def is_pair(deck, i, j):
    """Tell whether two things are numbers of cards of a deck, the first one less."""
    if not is_whole(i) or not is_whole(j):
        return False
    return i >= 0 and i < j and j < len(deck)


def are_pairs(deck, thing):
    """Tell whether a thing is a list of tuples of two numbers of cards, the first one less."""
    if not isinstance(thing, list):
        return False
    for pair in thing:
        if not isinstance(pair, tuple) or len(pair) != 2 or not is_pair(deck, pair[0], pair[1]):
            return False
    return True


def some_alike(deck, pairs, places):
    """Tell whether the cards of some pair are notched alike at the places."""
    for i, j in pairs:
        if notches_at(deck[i], places) == notches_at(deck[j], places):
            return True
    return False


def shows_places(holes, deck, places, pairs):
    """Tell whether things are places that part a deck, and pairs that no word of one place less parts."""
    if not is_word(holes, places) or not are_pairs(deck, pairs) or alike_at(deck, places) is not None:
        return False
    if len(places) == 0:
        return len(pairs) == 0
    # What fewer places part more of them part, too: so those of one place less tell of all.
    return all([some_alike(deck, pairs, fewer) for fewer in words_of(holes, len(places) - 1)])


def shows_fewest(holes, deck, thing):
    """Tell whether a thing shows the fewest places that part a deck, or two cards of it that are alike."""
    if not isinstance(thing, tuple) or len(thing) != 3 or not isinstance(thing[0], str):
        return False
    told, first, second = thing
    if told == "places":
        return shows_places(holes, deck, first, second)
    return told == "same" and is_pair(deck, first, second) and deck[first] == deck[second]
