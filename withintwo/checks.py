"""Which of any values are integers, tuples of them, signs, and what can be a certificate."""


def is_integer(thing):
    """Whether any value is an integer."""
    # In Python a bool is an int, in the document it is no integer.
    return isinstance(thing, int) and not isinstance(thing, bool)


def are_integers(thing):
    """Whether any value is a tuple of integers."""
    return isinstance(thing, tuple) and all([is_integer(item) for item in thing])


def are_signs(thing, many):
    """Whether any value is a tuple of so many integers 1 or -1."""
    return are_integers(thing) and len(thing) == many and all([item in (1, -1) for item in thing])


def are_unlike(items):
    """Whether no two integers of a tuple are equal."""
    return len({item: True for item in items}) == len(items)


def is_headed(thing, word, many):
    """Whether any value is a tuple of so many items, at least one, that begins with a word."""
    return isinstance(thing, tuple) and len(thing) == many and thing[0] == word


def is_ranked(thing, ranks):
    """Whether any value is a pair of a word and an integer within the bounds that a dict has for the word."""
    if not isinstance(thing, tuple) or len(thing) != 2:
        return False
    word, rank = thing
    if not isinstance(word, str) or word not in ranks or not is_integer(rank):
        return False
    return ranks[word][0] <= rank <= ranks[word][1]
