"""Cares: changes by which books are mended, and the least sets of them that are enough."""

from strayfiles.books import NAMINGS, Book
from strayfiles.calm import FAULTS, are_asks
from strayfiles.copies import copied
from strayfiles.errors import BadAsks, BadCare, TooMany
from strayfiles.handlers import MOST_PER_HANDLER, Hand, Reader, Sweep
from strayfiles.judging import judge
from strayfiles.lives import longest
from strayfiles.statements import may_have
from strayfiles.times import is_between

ENDLESS = "endless"

MOST_CARES = 4


def may_insert(book, name, at, text):
    """Whether a handler of this name may have this text as a new statement there; any values."""
    if name not in book or not is_between(at, 0, len(book[name])):
        return False
    return may_have(book[name].kind, text)


def has_statement(book, name, at):
    """Whether there is a handler of this name with a statement there; any values."""
    return name in book and is_between(at, 0, len(book[name]) - 1)


def under(book, name, at, condition):
    """The text of a statement that has got this condition."""
    return f"{book[name].statements[at].text} if {condition}"


def may_stand_under(book, name, at, condition):
    """Whether there is an act without a condition that may have this one; any values."""
    if not has_statement(book, name, at) or not isinstance(condition, str):
        return False
    # No statement has two conditions.
    return may_have(book[name].kind, under(book, name, at, condition))


class Plan:
    """What cares make of a book."""

    def __init__(self, book):
        self.book = book
        self.names = book.names
        self.age = book.age
        # The names of the sweeps that are called alone now.
        self.alone = {}
        # For a name and an index the texts that come before the statement there.
        self.inserts = {}
        # For a name and an index the text that stands there instead; None if it is left out.
        self.instead = {}

    def texts_of(self, handler):
        """The statements of a handler as they are then."""
        texts = []
        for at, text in enumerate(handler.texts() + [""]):
            texts.extend(self.inserts.get((handler.name, at), []))
            if at < len(handler):
                texts.append(self.instead.get((handler.name, at), text))
        return [text for text in texts if text is not None]

    def made_handler(self, handler, texts):
        """A handler with other statements, perhaps called alone now."""
        name, span = handler.name, handler.span
        if handler.kind == "hand":
            begins = handler.begins
            return Hand(name, *texts, begins=begins, span=span)
        if handler.kind == "sweep":
            alone = handler.alone or name in self.alone
            return Sweep(name, *texts, alone=alone, span=span)
        return Reader(name, *texts, span=span)

    def made_book(self):
        """The book with the cares."""
        groups = [self.texts_of(handler) for handler in self.book.handlers]
        if not all([1 <= len(texts) <= MOST_PER_HANDLER for texts in groups]):
            raise BadCare(-1)
        if sum([len(texts) for texts in groups]) > Book.MOST_STATEMENTS:
            raise BadCare(-1)
        handlers = [self.made_handler(handler, texts) for handler, texts in zip(self.book.handlers, groups)]
        keep = self.book.keep
        return Book(*handlers, names=self.names, age=self.age, off=self.book.off, keep=keep)


class Care:
    """What all cares have in common; only a base class."""

    def fits(self, book):
        """Whether the care can be made in a book."""
        return False

    def claim(self):
        """What no other care may concern; () if there is nothing."""
        return ()


class Insert(Care):
    """A new statement comes before that at an index."""

    def __init__(self, name, at, text):
        self.name = copied(name)
        self.at = copied(at)
        self.text = copied(text)

    def __eq__(self, other):
        return (isinstance(other, Insert) and self.name == other.name and self.at == other.at
                and self.text == other.text)

    def __repr__(self):
        return f"Insert({self.name!r}, {self.at!r}, {self.text!r})"

    def fits(self, book):
        return may_insert(book, self.name, self.at, self.text)

    def enter(self, plan):
        plan.inserts[self.name, self.at] = plan.inserts.get((self.name, self.at), []) + [self.text]


class Under(Care):
    """The act at an index gets a condition."""

    def __init__(self, name, at, condition):
        self.name = copied(name)
        self.at = copied(at)
        self.condition = copied(condition)

    def __eq__(self, other):
        return (isinstance(other, Under) and self.name == other.name and self.at == other.at
                and self.condition == other.condition)

    def __repr__(self):
        return f"Under({self.name!r}, {self.at!r}, {self.condition!r})"

    def fits(self, book):
        return may_stand_under(book, self.name, self.at, self.condition)

    def claim(self):
        return "statement", self.name, self.at

    def enter(self, plan):
        plan.instead[self.name, self.at] = under(plan.book, self.name, self.at, self.condition)


class Without(Care):
    """The statement at an index is left out."""

    def __init__(self, name, at):
        self.name = copied(name)
        self.at = copied(at)

    def __eq__(self, other):
        return isinstance(other, Without) and self.name == other.name and self.at == other.at

    def __repr__(self):
        return f"Without({self.name!r}, {self.at!r})"

    def fits(self, book):
        return has_statement(book, self.name, self.at)

    def claim(self):
        return "statement", self.name, self.at

    def enter(self, plan):
        plan.instead[self.name, self.at] = None


class Alone(Care):
    """A sweep is called alone."""

    def __init__(self, name):
        self.name = copied(name)

    def __eq__(self, other):
        return isinstance(other, Alone) and self.name == other.name

    def __repr__(self):
        return f"Alone({self.name!r})"

    def fits(self, book):
        if self.name not in book or book[self.name].kind != "sweep":
            return False
        return not book[self.name].alone

    def claim(self):
        return "alone", self.name

    def enter(self, plan):
        plan.alone[self.name] = True


class Waiting(Care):
    """The book has another age."""

    def __init__(self, age):
        self.age = copied(age)

    def __eq__(self, other):
        return isinstance(other, Waiting) and self.age == other.age

    def __repr__(self):
        return f"Waiting({self.age!r})"

    def fits(self, book):
        return is_between(self.age, 0, Book.MOST_AGE)

    def claim(self):
        return ("age",)

    def enter(self, plan):
        plan.age = self.age


class Naming(Care):
    """The book has other names."""

    def __init__(self, names):
        self.names = copied(names)

    def __eq__(self, other):
        return isinstance(other, Naming) and self.names == other.names

    def __repr__(self):
        return f"Naming({self.names!r})"

    def fits(self, book):
        return self.names in NAMINGS

    def claim(self):
        return ("names",)

    def enter(self, plan):
        plan.names = self.names


def check_cares(book, cares):
    """Raises BadCare for the first one that cannot be made or collides with one before it."""
    claims = {}
    for at, care in enumerate(cares):
        if not isinstance(care, Care) or not care.fits(book) or care.claim() in claims:
            raise BadCare(at)
        if care.claim() != ():
            claims[care.claim()] = True


def cared(book, cares):
    """The book with cares."""
    check_cares(book, cares)
    plan = Plan(book)
    for care in cares:
        care.enter(plan)
    return plan.made_book()


def sets_of(many):
    """All sets of so many indexes, ascending."""
    sets = [()]
    for at in reversed(range(many)):
        # First those with this index, then those that begin behind it.
        sets = [()] + [(at, *others) for others in sets] + sets[1:]
    return sets


def weaving_of(book, asks, most):
    """What shows that a book has an asked fault, in a list: a weaving or a certificate; none if it has none."""
    plain = [ask for ask in asks if ask != ENDLESS]
    if plain:
        verdict = judge(book, asks=plain, most=most)
        if not verdict:
            return [verdict.weaving]
    if ENDLESS in asks:
        life = longest(book, most=most)
        if life.ticks is None:
            return [life.certificate]
    return []


def is_part(some, others):
    """Whether a set is contained in another one, and is not the same."""
    return some != others and all([index in others for index in some])


class Choice:
    """Which sets of cares are enough, and what shows that the others are not."""

    def __init__(self, enough, weavings):
        self.enough = enough
        self.least = tuple([one for one in enough if not any([is_part(other, one) for other in enough])])
        self._weavings = weavings

    @property
    def weavings(self):
        """For each set that is not enough the weaving or the certificate that shows it."""
        return {one: self._weavings[one] for one in self._weavings}

    def __iter__(self):
        return iter(self.least)

    def __bool__(self):
        return bool(self.least)

    def __len__(self):
        return len(self.least)


def least_cares(book, offered, *, asks=("lost", "blind", "stray"), most=100):
    """Which sets of the offered cares free the book of the faults that are asked."""
    if not are_asks(asks, FAULTS + (ENDLESS,)):
        raise BadAsks(asks)
    if len(offered) > MOST_CARES:
        raise TooMany("cares")
    check_cares(book, offered)
    sets = sets_of(len(offered))
    books = {one: cared(book, [offered[at] for at in one]) for one in sets}
    enough = []
    weavings = {}
    for one in sets:
        found = weaving_of(books[one], asks, most)
        if found:
            weavings[one] = found[0]
        else:
            enough.append(one)
    return Choice(tuple(enough), weavings)


def ages(book, *, asks=("lost", "blind", "stray"), most=100):
    """The verdicts on the book with the ages 0, 1 and so on, up to the first with which it is kept."""
    verdicts = []
    for age in range(Book.MOST_AGE + 1):
        verdicts.append(judge(book.with_age(age), asks=asks, most=most))
        if verdicts[-1]:
            break
    return verdicts


def least_age(book, *, asks=("lost", "blind", "stray"), most=100):
    """The least age with which the book is kept, or None."""
    verdicts = ages(book, asks=asks, most=most)
    return len(verdicts) - 1 if verdicts[-1] else None
