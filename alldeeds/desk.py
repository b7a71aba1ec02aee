"""A desk: a file, and promises that are kept for it."""

from alldeeds.errors import BadValue, Broken, NotMade, NothingToRedo, NothingToUndo, Taken, Unknown
from alldeeds.files import read_file, written_file
from alldeeds.formparts import fits_name
from alldeeds.items import deed_of_item, items_by_name
from alldeeds.promises import promise_text, read_promise
from alldeeds.questions import answered

# the classes of values that are surely no functions
NO_FUNCTIONS = (
    "NoneType",
    "bool",
    "int",
    "float",
    "complex",
    "str",
    "bytes",
    "list",
    "tuple",
    "dict",
    "set",
    "object",
    "Deed",
    "Wirings",
    "Program",
    "Desk",
)


def item_named(file, name):
    """The item of the file with this name."""
    if not isinstance(name, str):
        raise BadValue(name)
    table = items_by_name(file)
    if name not in table:
        raise Unknown(name)
    return table[name]


def check_promises(state, before):
    """Raises Broken for the first promise of the state that does not hold; all those of the state before hold there."""
    table, old = [items_by_name(file) for file, _ in (state, before)]
    for promise in state[1]:
        names = [told for told in promise[1:] if isinstance(told, str)]
        if promise in before[1] and all([table.get(name) == old.get(name) for name in names]):
            continue
        holds, paper = answered(table, promise)
        if not holds:
            raise Broken(promise_text(promise), paper)


def with_items(file, items):
    """The file with the items in the places of those with their names, or behind the last one."""
    new = items_by_name(items)
    here = items_by_name(file)
    return tuple([new.get(item[1], item) for item in file] + [item for item in items if item[1] not in here])


def with_other_name(promises, name, new):
    """The promises with a new name for an item, those that become equal once."""
    told = []
    for promise in promises:
        other = promise[:1] + tuple([new if part == name else part for part in promise[1:]])
        if other not in told:
            told.append(other)
    return tuple(told)


class Desk:
    """A file and promises.

    A state is a pair of the file and the tuple of the promises in their order. The
    past has the states to go back to, the last one first, the future those that
    were left so.
    """

    def __init__(self, text=""):
        self.state = (read_file(text), ())
        self.past = ()
        self.future = ()
        self.depth = 0

    def change(self, file, promises):
        """An edit that leads to the file and the promises."""
        state = (file, promises)
        if self.depth == 0:
            check_promises(state, self.state)
        self.past = self.past + (self.state,)
        self.future = ()
        self.state = state

    def put(self, text):
        """Puts the items of the text of a file in the places of those with their names, or behind the last one."""
        items = read_file(text)
        file, made = self.state
        self.change(with_items(file, items), made)

    def drop(self, name):
        """Takes the item with this name away."""
        file, made = self.state
        gone = item_named(file, name)
        self.change(tuple([item for item in file if item != gone]), made)

    def rename(self, name, new):
        """Gives the item with this name a new one, in the promises, too."""
        if not isinstance(name, str):
            raise BadValue(name)
        if not fits_name(new):
            raise BadValue(new)
        file, made = self.state
        old = item_named(file, name)
        if new in items_by_name(file):
            raise Taken(new)
        renamed = [item if item != old else item[:1] + (new,) + item[2:] for item in file]
        self.change(tuple(renamed), with_other_name(made, name, new))

    def keep(self, promise):
        """Makes the promise of the text."""
        told = read_promise(promise)
        file, made = self.state
        self.change(file, made if told in made else made + (told,))

    def release(self, promise):
        """Takes the promise of the text back."""
        told = read_promise(promise)
        file, made = self.state
        if told not in made:
            raise NotMade(promise_text(told))
        self.change(file, tuple([other for other in made if other != told]))

    def attempt(self, action):
        """What the function returns; all that it does at the desk is one edit, or nothing if an error is raised."""
        if action.__class__.__name__ in NO_FUNCTIONS:
            raise BadValue(action)
        state, past, future, depth = self.state, self.past, self.future, self.depth
        self.past = ()
        self.future = ()
        self.depth = depth + 1
        ended = None
        try:
            told = action(self)
            if depth == 0:
                check_promises(self.state, state)
            ended = True
        finally:
            self.past = past
            self.future = future
            self.depth = depth
            if ended is None:
                self.state = state
        self.past = past + (state,)
        self.future = ()
        return told

    def undo(self):
        """Goes back to the state ahead of the last edit."""
        if not self.past:
            raise NothingToUndo()
        self.future = self.future + (self.state,)
        self.state = self.past[-1]
        self.past = self.past[:-1]

    def redo(self):
        """Does again what was taken back last."""
        if not self.future:
            raise NothingToRedo()
        self.past = self.past + (self.state,)
        self.state = self.future[-1]
        self.future = self.future[:-1]

    def lines(self):
        """The text of its file."""
        return written_file(self.state[0])

    def names(self):
        """The tuple of the names of its items, in order."""
        return tuple([item[1] for item in self.state[0]])

    def promises(self):
        """The list of the texts of its promises, in order."""
        return [promise_text(promise) for promise in self.state[1]]

    def deed(self, name):
        """The Deed of the deed or program with this name."""
        deed = deed_of_item(item_named(self.state[0], name))
        if deed is None:
            raise Unknown(name)
        return deed

    def ask(self, promise):
        """Whether the promise of the text holds, and its paper."""
        return answered(items_by_name(self.state[0]), read_promise(promise))
