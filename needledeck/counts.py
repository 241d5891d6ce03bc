"""Counts of all needlings: for each word, in the words' order, how many cards of a deck drop at it."""

from needledeck.words import all_words

# Within this file a word also goes by its mask: the number whose binary figures are 1 at the word's places.
# So the word with one place more is had by one step.


def mask_of(word):
    """Tell the mask of a word."""
    return sum([1 << place for place in word])


def by_masks(holes, numbers):
    """Tell numbers in the words' order anew, each at its word's mask."""
    told = [0] * len(numbers)
    for word, number in zip(all_words(holes), numbers):
        told[mask_of(word)] = number
    return told


def put_to(many, place, times):
    """Put to the number of each mask without a place so many times that of the mask with it."""
    bit = 1 << place
    return [number if mask & bit else number + times * many[mask | bit] for mask, number in enumerate(many)]


def counts(holes, deck):
    """Tell for each word how many cards of a deck drop when it is needled with that word."""
    many = [0] * (1 << holes)
    for card in deck:
        many[mask_of(card)] += 1
    # Behind each place a mask counts the cards that have its places and, beyond those seen, no others.
    for place in range(holes):
        many = put_to(many, place, 1)
    return [many[mask_of(word)] for word in all_words(holes)]


def parted_by(holes, numbers, places):
    """Tell at each mask how many of the cards it counts are notched at none of the places that it hasn't."""
    many = by_masks(holes, numbers)
    for place in places:
        many = put_to(many, place, -1)
    return many


def deck_of(holes, numbers):
    """Tell the deck of which these are the counts, or a word of which there would be fewer than 0 cards."""
    words = all_words(holes)
    many = parted_by(holes, numbers, tuple(range(holes)))
    for word in words:
        if many[mask_of(word)] < 0:
            return ("never", word)
    return ("deck", [word for word in words for card in range(many[mask_of(word)])])


def just(holes, numbers, notched, whole):
    """Tell how many cards are notched at all places of one word and at none of another one."""
    return parted_by(holes, numbers, whole)[mask_of(notched)]
