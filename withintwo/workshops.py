"""Workshops: signed webs that are changed, and that keep their promises."""

from withintwo.changes import changed, dealt
from withintwo.errors import BadChange, BadText, Broken, NothingToRedo, NothingToUndo
from withintwo.needs import need_signed_web
from withintwo.promises import against, first_broken, is_against, need_promise, promise_line, promise_told
from withintwo.texts import entries_told, places_told, text_of


class Workshop:
    """A signed web and its promises, with the deeds that can be undone and redone."""

    def __init__(self, web):
        need_signed_web(web)
        self._web = web
        self._promises = ()
        # The pairs of web and promises ahead of each deed, and those that were taken back.
        self._past = []
        self._future = []

    def __eq__(self, other):
        return isinstance(other, Workshop) and str(self) == str(other)

    def __str__(self):
        return "\n".join(["workshop", text_of(self._web)] + [promise_line(promise) for promise in self._promises])

    def web(self):
        """The signed web."""
        return self._web

    def promises(self):
        """The tuple of the promises, in the order in which they were made."""
        return self._promises

    def deeds(self):
        """How many deeds can be undone."""
        return len(self._past)

    def _do(self, state):
        """Do the deed that leads to a pair of web and promises, or refuse it."""
        broken = first_broken(state[0], state[1])
        if broken is not None:
            raise Broken(broken[0], broken[1])
        self._past.append((self._web, self._promises))
        self._future = []
        self._web, self._promises = state

    def change(self, change):
        """Do the deal of one change alone."""
        self._do(changed((self._web, self._promises), change))

    def deal(self, changes):
        """Do a deal."""
        self._do(dealt((self._web, self._promises), changes))

    def would(self, changes):
        """Whether deal would do any value."""
        try:
            state = dealt((self._web, self._promises), changes)
        except BadChange:
            return False
        return first_broken(state[0], state[1]) is None

    def judged(self, promise):
        """That a promise holds, or any certificate against it."""
        need_promise(promise)
        certificate = against(self._web, promise)
        return ("holds",) if certificate is None else certificate

    def against_holds(self, promise, thing):
        """Whether any value is a certificate against a promise."""
        need_promise(promise)
        return is_against(self._web, promise, thing)

    def undo(self):
        """Take back the last deed that has not been taken back."""
        if self._past == []:
            raise NothingToUndo()
        self._future.append((self._web, self._promises))
        self._web, self._promises = self._past.pop()

    def redo(self):
        """Do again the deed that was taken back last and not yet done again."""
        if self._future == []:
            raise NothingToRedo()
        self._past.append((self._web, self._promises))
        self._web, self._promises = self._future.pop()

    def copied(self):
        """Another workshop that is equal, with the same deeds."""
        other = Workshop(self._web)
        other._promises = self._promises
        other._past = list(self._past)
        other._future = list(self._future)
        return other


def signed_entries_told(line, many):
    """The list of the entries that a line of the text of a signed web tells; None if it is wrong."""
    entries = entries_told(line, many)
    if entries is None or entries[-1] != 0 or not all([-1 <= entry <= 1 for entry in entries]):
        return None
    return entries


def web_told(lines):
    """The signed web that the lines behind the first one of a text tell."""
    many = places_told(lines[1]) if len(lines) > 1 else 0
    if many == 0:
        raise BadText(2)
    rows = []
    for at in range(2, many + 2):
        entries = signed_entries_told(lines[at], at - 1) if at < len(lines) else None
        if entries is None:
            raise BadText(at + 1)
        rows.append(entries)
    places = range(many)
    return tuple([tuple([rows[max(i, j)][min(i, j)] for j in places]) for i in places])


def read_workshop(text):
    """The workshop with a text."""
    if not isinstance(text, str):
        raise BadText(0)
    lines = text.split("\n")
    if lines[0] != "workshop":
        raise BadText(1)
    web = web_told(lines)
    promises = []
    for at in range(len(web) + 2, len(lines)):
        promise = promise_told(lines[at])
        if promise is None or promise in promises or against(web, promise) is not None:
            raise BadText(at + 1)
        promises.append(promise)
    shop = Workshop(web)
    shop._promises = tuple(promises)
    return shop
