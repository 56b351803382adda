"""The refusal of values that are no webs, no signed webs and no looped webs."""

from withintwo.errors import BadWeb
from withintwo.tables import is_looped_web, is_signed_web, is_web


def need_web(thing):
    """Refuse a value that is no web."""
    if not is_web(thing):
        raise BadWeb(thing)


def need_signed_web(thing):
    """Refuse a value that is no signed web."""
    if not is_signed_web(thing):
        raise BadWeb(thing)


def need_looped_web(thing):
    """Refuse a value that is no looped web."""
    if not is_looped_web(thing):
        raise BadWeb(thing)
