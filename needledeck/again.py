"""Fields cut again: readings, a value for each word in the words' order, and how often a field goes."""

from needledeck.words import all_words, is_whole, within


def showing(words, reading, word, value):
    """Tell the numbers of the words that show a value and in which a word lies within."""
    return [at for at, other in enumerate(words) if reading[at] == value and within(word, other)]


def next_cut(holes, reading, word, value):
    """Tell a word of as few places as any that shows a value from a word on, or that it is never shown."""
    words = all_words(holes)
    found = [words[at] for at in showing(words, reading, word, value)]
    # All others in which the first one lies within have more places: so it is told itself, where it shows it.
    return ("cut", min(found, key=len)) if found else ("never",)


def best_turns(words, reading, numbers, word, value):
    """Tell one more than the greatest number of a word that shows a value from a word on, 0 where there is none."""
    return max([numbers[at] + 1 for at in showing(words, reading, word, value)], default=0)


def sure_turns(words, reading, values, numbers, at):
    """Tell how often the word number at goes surely, where the words beyond it go as often as their numbers."""
    # Nobody knows which value comes, so it is the worst one that counts, and of its words the best one.
    others = [value for value in range(values) if value != reading[at]]
    return min([best_turns(words, reading, numbers, words[at], value) for value in others])


def often(holes, reading, values):
    """Tell for each word how often a field goes from there on."""
    words = all_words(holes)
    told = [0] * len(words)
    # Another value is shown by more places alone: so the words of more places are reckoned first.
    for at in sorted(range(len(words)), key=lambda number: -len(words[number])):
        told[at] = sure_turns(words, reading, values, told, at)
    return told


def are_numbers(thing, many):
    """Tell whether a thing is a list of so many whole numbers from 0 on."""
    if not isinstance(thing, list) or len(thing) != many:
        return False
    return all([is_whole(number) and number >= 0 for number in thing])


def shows_least(holes, reading, values, thing):
    """Tell whether a thing is numbers that show how often a field goes at least."""
    words = all_words(holes)
    if not are_numbers(thing, len(words)):
        return False
    # A number of 0 asks for nothing, and no turns are fewer than 0: so none is left out of the walk.
    return all([thing[at] <= sure_turns(words, reading, values, thing, at) for at in range(len(words))])


def shows_most_often(holes, reading, values, thing):
    """Tell whether a thing is numbers that show how often a field goes at most."""
    words = all_words(holes)
    if not are_numbers(thing, len(words)):
        return False
    # All that show a value have lesser numbers just where the number is one more than theirs, or greater.
    return all([thing[at] >= sure_turns(words, reading, values, thing, at) for at in range(len(words))])


def cut_by(words, reading, numbers, at, value):
    """Tell the number of the word that is cut, from the word number at on, for a value, or None."""
    if reading[at] == value:
        return at
    found = showing(words, reading, words[at], value)
    return max(found, key=lambda number: (numbers[number], -len(words[number]))) if found else None


def written(holes, reading, numbers, word, row):
    """Tell the words that are cut for a row of values, from a word on, up to the first that can't be shown."""
    words = all_words(holes)
    at = words.index(word)
    told = []
    for value in row:
        at = cut_by(words, reading, numbers, at, value)
        if at is None:
            return ("stuck", told)
        told.append(words[at])
    return ("written", told)


def folded_value(word):
    """Tell a word's places, each with 1 put to it, put together by exclusive or."""
    value = 0
    for place in word:
        value = value ^ (place + 1)
    return value


def folded(k):
    """Tell the folded reading for k."""
    return [folded_value(word) for word in all_words((1 << k) - 1)]
