"""The two houses: one keeps files, the other the rows that name them."""

from strayfiles.errors import NoFile, NoRow


def placed(table, key, worth):
    """A new table with ascending keys, in which this key has this worth."""
    out = {one: table[one] for one in table if one < key}
    out[key] = worth
    for one in table:
        if key < one:
            out[one] = table[one]
    return out


def without(table, key):
    """A new table that lacks this key."""
    return {one: table[one] for one in table if one != key}


class FileHouse:
    """For each content perhaps a file, with its age."""

    def __init__(self):
        self._ages = {}

    def __getitem__(self, at):
        if at not in self._ages:
            raise NoFile(at)
        return self._ages[at]

    def __setitem__(self, at, worth):
        self._ages = placed(self._ages, at, worth)

    def __contains__(self, x):
        return x in self._ages

    def __len__(self):
        return len(self._ages)

    def __iter__(self):
        return iter(self._ages)

    def take(self, content):
        """There is no file of this content any more."""
        self._ages = without(self._ages, content)

    def tick(self):
        """All files are one tick older."""
        self._ages = {content: self._ages[content] + 1 for content in self._ages}


class RowHouse:
    """Rows, each with a content that it names, a number, and whether it is open or done."""

    def __init__(self):
        self._standings = {}

    def __getitem__(self, at):
        content, row = at
        if at not in self._standings:
            raise NoRow(content, row)
        return self._standings[at]

    def __setitem__(self, at, worth):
        self._standings = placed(self._standings, at, worth)

    def __contains__(self, x):
        return x in self._standings

    def __len__(self):
        return len(self._standings)

    def __iter__(self):
        return iter(self._standings)

    def take(self, content, row):
        """This row is not there any more."""
        self._standings = without(self._standings, (content, row))

    def standings(self, content):
        """How the rows of a content stand, by their numbers, ascending."""
        return {row: self._standings[named, row] for named, row in self._standings if named == content}

    def is_named(self, content):
        """Whether a done row names this content."""
        return "done" in list(self.standings(content).values())
