"""The refusal of values that are no webs and no signed webs."""

from withintwo.errors import BadWeb
from withintwo.tables import is_signed_web, is_web


def need_web(thing):
    """Refuse a value that is no web."""
    if not is_web(thing):
        raise BadWeb(thing)


def need_signed_web(thing):
    """Refuse a value that is no signed web."""
    if not is_signed_web(thing):
        raise BadWeb(thing)
