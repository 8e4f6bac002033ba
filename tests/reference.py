"""Points 13 and 17 to 20 once more, as plainly as can be: what the package is measured by on random books.

It takes from the package only the texts of the statements and the fields of books and handlers.
"""


def parts(text):
    """The first word of a statement, and its condition or None."""
    word, _, condition = text.partition(" if ")
    return word, condition or None


def readings(book, text, age, mark):
    """All readings with which a statement may be carried out."""
    read = {"old": age, "young": age, "ripe": mark, "unripe": mark}.get(parts(text)[1], -1)
    if read == -1:
        return [""]
    return (["old"] if read >= book.age - book.off else []) + (["young"] if read < book.age + book.off else [])


def is_true(condition, age, mark, rows, own, reading):
    """Whether a condition holds; rows are the standings of all rows that are there."""
    return {
        None: True,
        "file": age != -1, "nofile": age == -1,
        "old": age != -1 and reading == "old", "young": age != -1 and reading == "young",
        "rows": bool(rows), "norows": not rows,
        "named": "done" in rows, "unnamed": "done" not in rows,
        "marked": mark != -1, "unmarked": mark == -1,
        "ripe": mark != -1 and reading == "old", "unripe": mark != -1 and reading == "young",
        "mine": own != "none", "notmine": own == "none",
    }[condition]


def effect(word, age, mark, posts, own):
    """Age, mark, posts and standing of the own row after an act that acts."""
    idle_open = ("open", "", 0, 0)
    return {
        "put": (0, mark, posts, own),
        "touch": (-1 if age == -1 else 0, mark, posts, own),
        "strike": (-1, mark, posts, own),
        "row": (age, mark, posts, "open" if own == "none" else own),
        "done": (age, mark, posts, "done"),
        "drop": (age, mark, posts, "none"),
        "mark": (age, 0 if mark == -1 else mark, posts, own),
        "unmark": (age, -1, posts, own),
        "clear": (age, mark, posts - {idle_open}, own),
        "read": (age, mark, posts, own),
    }[word]


def deeds(book, state, name, index, own):
    """For each reading: the reading, the index then (None if over), and age, mark, posts and own row then."""
    age, mark, posts = state[0], state[1], set(state[5])
    texts = [statement.text for statement in book[name]]
    rows = [post[0] for post in posts if post[0] != "none"]
    word, condition = parts(texts[index])
    found = []
    for reading in readings(book, texts[index], age, mark):
        after = (age, mark, posts, own)
        then = index + 1
        if is_true(condition, age, mark, rows, own, reading):
            if word in ("stop", "skip", "again"):
                then = {"stop": len(texts), "skip": index + 2, "again": 0}[word]
            else:
                after = effect(word, age, mark, posts, own)
        found.append((reading, then if then < len(texts) else None, after))
    return found


def crowd_kinds(book):
    """The names of the handlers whose runs may be in the crowd."""
    return [one.name for one in book if (one.kind == "hand" and book.names == "shared") or one.kind == "reader"
            or (one.kind == "sweep" and not one.alone)]


def settle(book, state):
    """The settled state, by adding stages until nothing more comes."""
    age, mark, copy, alone, crowd, rows = state
    named = any(post[0] == "done" for post in rows)
    stages = set(crowd)
    for name in crowd_kinds(book):
        one = book[name]
        if one.kind == "sweep" or (one.kind == "reader" and named) or (one.kind == "hand" and one.begins == "none"):
            stages.add((name, 0, 0))
    while True:
        more = {(name, then, elapsed) for name, index, elapsed in stages
                for _, then, after in deeds(book, state, name, index, "none")
                if then is not None and after == (age, mark, set(rows), "none")}
        if more <= stages:
            break
        stages |= more
    fresh = sorted(one for one in stages
                   if not any(other[:2] == one[:2] and other[2] < one[2] for other in stages))
    return age, mark, copy, alone, tuple(fresh), tuple(sorted(rows))


def older(book, stage):
    """A stage a tick later, or None if its run is over then."""
    name, index, elapsed = stage
    span = book[name].span
    if span is None:
        return stage
    return (name, index, elapsed + 1) if elapsed + 1 <= span else None


def ticked(book, state):
    age, mark, copy, alone, crowd, rows = state
    top = book.age + book.off
    alone = (older(book, alone) or ()) if alone else ()
    posts = set()
    for post in rows:
        if post[1] == "":
            posts.add(post)
        elif older(book, post[1:]) is not None:
            posts.add((post[0],) + older(book, post[1:]))
        elif post[0] != "none":
            posts.add((post[0], "", 0, 0))
    crowd = [older(book, stage) for stage in crowd if older(book, stage) is not None]
    return (age if age == -1 else min(age + 1, top), mark if mark == -1 else min(mark + 1, top), max(copy - 1, -1),
            alone, crowd, posts)


def arrive(book, state, stage_then, after, gone=None):
    """The state after a deed of a run in the crowd or at a post."""
    name, then, elapsed = stage_then
    age, mark, posts, own = after
    posts, crowd = set(posts) - {gone}, list(state[4])
    if then is None:
        posts |= set() if own == "none" else {(own, "", 0, 0)}
    elif own == "none" and name in crowd_kinds(book):
        crowd.append((name, then, elapsed))
    else:
        posts.add((own, name, then, elapsed))
    return age, mark, state[2], state[3], crowd, posts


def post_moves(book, state, post, how):
    """The moves of one post, with how many go along, and what is made of the state."""
    age, mark, copy, alone, crowd, rows = state
    standing, name, index, elapsed = post
    left = set(rows) - ({post} if how == "all" else set())
    made = {}
    if name == "":
        for one in book:
            if one.kind == "hand" and one.begins == standing:
                made["begin", standing, one.name, how] = (age, mark, copy, alone, crowd,
                                                          left | {(standing, one.name, 0, 0)})
        return made
    idle = set() if standing == "none" else {(standing, "", 0, 0)}
    made[("fall",) + post + (how,)] = (age, mark, copy, alone, crowd, left | idle)
    for reading, then, after in deeds(book, state, name, index, standing):
        made[("step",) + post + (reading, how)] = arrive(book, state, (name, then, elapsed), after,
                                                         post if how == "all" else None)
    return made


def lone_moves(book, state):
    """The moves of sweeps that are called alone."""
    age, mark, copy, alone, crowd, rows = state
    if alone == ():
        return {("alone", one.name): (age, mark, copy, (one.name, 0, 0), crowd, rows)
                for one in book if one.kind == "sweep" and one.alone}
    name, index, elapsed = alone
    made = {("quit",): (age, mark, copy, (), crowd, rows)}
    for reading, then, after in deeds(book, state, name, index, "none"):
        stage = () if then is None else (name, then, elapsed)
        made["lone", reading] = (after[0], after[1], copy, stage, crowd, after[2])
    return made


def moves(book, state):
    """A dict from each move of a state to the state that it makes."""
    age, mark, copy, alone, crowd, rows = state
    made = {("tick",): ticked(book, state)}
    if book.keep is not None and any(post[0] == "done" for post in rows):
        made[("copy",)] = (age, mark, book.keep, alone, crowd, rows)
    made.update(lone_moves(book, state))
    for how in (["all"] if book.names == "own" else ["some", "all"]):
        for post in rows:
            made.update(post_moves(book, state, post, how))
    if book.names == "own" and rows == ():
        for one in book:
            if one.kind == "hand" and one.begins == "none":
                made["begin", "none", one.name, "all"] = (age, mark, copy, alone, crowd, {("none", one.name, 0, 0)})
    for name, index, elapsed in crowd:
        for _, then, after in deeds(book, state, name, index, "none"):
            if after != (age, mark, set(rows), "none"):
                made["free", name, index] = arrive(book, state, (name, then, elapsed), after)
    return {move: settle(book, new) for move, new in made.items()}


def first(book):
    return settle(book, (-1, -1, -1, (), (), ()))


def covers(state, other):
    if state[:4] != other[:4]:
        return False
    for part in (4, 5):
        for one in other[part]:
            if not any(mine[:-1] == one[:-1] and mine[-1] <= one[-1] for mine in state[part]):
                return False
    return all(any(mine[:-1] == one[:-1] and mine[-1] <= one[-1] for one in other[5]) for mine in state[5])
