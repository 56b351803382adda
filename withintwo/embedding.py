"""The search for places of a web that have all ties of another one between them."""


def embedding_from(web, places, table, found):
    """A tuple of places that goes on from found and has all ties of a table; None if there is none."""
    at = len(found)
    if at == len(table):
        return found
    tied = [elder for elder, entry in zip(found, table[at]) if entry == 1]
    for place in places:
        if place not in found and all([web[place][elder] == 1 for elder in tied]):
            whole = embedding_from(web, places, table, found + (place,))
            if whole is not None:
                return whole
    return None
