"""Keeping: tables whose rules hold, the looks of a book beside them, and all changes that were done."""

from lookback.asks import is_ask
from lookback.books import unfolded
from lookback.changes import back_of, changed, is_change
from lookback.counted import Counted
from lookback.errors import Barred, Never, NoAsk, NoChange, Two
from lookback.leading import lead_back
from lookback.plain import is_word
from lookback.rules import broken
from lookback.stands import are_stays
from lookback.telling import told


class Keeper:
    """A filling as it is by now, and the looks of a book, kept."""

    def __init__(self, schema, filling, rules, book):
        self.schema = schema
        self.rules = rules
        self.now = filling
        self.looks = {word: unfolded(book, look) for word, look in book}
        self.kept = {word: Counted(schema, filling, look) for word, look in self.looks.items()}
        self.done = []

    def filling(self):
        """The filling behind all changes."""
        return self.now

    def rows(self, word):
        """The rising tuple of the rows of a table or of a word of the book."""
        if word in self.kept:
            return self.kept[word].rows()
        return told(self.schema, self.now, ("of", word))

    def change(self, change):
        """Do a change that the rules let; told is the dict from words to what of their rows went and came."""
        if not is_change(self.schema, self.now, change):
            raise NoChange()
        rule = broken(self.schema, changed(self.schema, self.now, change), self.rules)
        if rule is not None:
            raise Barred(rule, None)
        self.done.append(change)
        return put_through(self, change)

    def ask(self, word, stays, ask):
        """Do the one least change that does what is asked of a word of the book, and tell it."""
        if not can_be_asked(self, word, stays, ask):
            raise NoAsk()
        answer = lead_back(self.schema, self.now, self.rules, stays, self.looks[word], ask)
        if answer[0] == "two":
            raise Two(answer[1], answer[2])
        if answer[0] == "barred":
            raise Barred(answer[1], answer[2])
        if answer[0] == "never":
            raise Never()
        self.change(answer[1])
        return answer[1]

    def back(self):
        """Undo the last change that was done, and tell it."""
        if not self.done:
            raise NoChange()
        change = self.done.pop()
        put_through(self, back_of(change))
        return change

    def journal(self):
        """The tuple of the changes done."""
        return tuple(self.done)


def can_be_asked(keeper, word, stays, ask):
    """Whether these, of any kind, are a word of the book, stays, and an ask of its look."""
    if not is_word(word) or word not in keeper.looks or not are_stays(keeper.schema, stays):
        return False
    return is_ask(keeper.schema, keeper.now, keeper.looks[word], ask)


def put_through(keeper, change):
    """Put a change through to all that is kept; told is the dict from words whose rows are others to (gone, come)."""
    keeper.now = changed(keeper.schema, keeper.now, change)
    moved = {word: counted.change(change) for word, counted in keeper.kept.items()}
    return {word: pair for word, pair in moved.items() if pair != ((), ())}
