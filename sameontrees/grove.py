"""Trees that share their parts: each is kept once, by an index of its own."""

from sameontrees.trees import fields_of, makers_of, rows_of_tree, with_trees


class Grove:
    """Rows of trees of some kinds, however many."""

    def __init__(self, kinds):
        self.makers = makers_of(kinds)
        self.rows = []
        self.index_of = {}

    def put(self, maker, entries):
        """The index of the maker over entries: integers, and indexes of trees that are put in."""
        row = (maker, entries)
        if row not in self.index_of:
            self.index_of[row] = len(self.rows)
            self.rows.append(row)
        return self.index_of[row]

    def put_all(self, rows):
        """A list of the indexes of the trees of the rows."""
        found = []
        for maker, entries in rows:
            found.append(self.put(maker, with_trees(fields_of(self.makers, maker), entries, found)))
        return found

    def rows_at(self, index):
        """Rows of the tree with the index: its parts and itself, each once."""
        return rows_of_tree(self.makers, self.rows, index)
