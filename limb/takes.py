"""What is taken away by ready deeds, what their hands are told of them, and their history."""

from limb.deeds import name_of
from limb.folds import last_turns, steps_of, words_of
from limb.orders import apart, hears
from limb.plain import Plain


def takings_of(ready):
    words = dict(words_of(ready))
    whole = stepped([step for name, step in steps_of(ready)])
    taken = [deed for deed in ready if words[name_of(deed)] in ("done", "top")]
    takings = []
    for deed in taken:
        if deed[2][0] in ("take", "join"):
            item = taken_item(deed)
            takings.append((name_of(deed), item, first_gainsayer(deed, item, taken, whole)))
    return takings


def stepped(steps):
    outline = Plain()
    for step in steps:
        outline.step(step)
    return outline


def taken_item(deed):
    return deed[2][1] if deed[2][0] == "take" else deed[2][2]


def first_gainsayer(taking, item, taken, whole):
    for deed in taken:
        if gainsays(deed, taking, item, whole):
            return name_of(deed)
    return None


def gainsays(deed, taking, item, whole):
    if deed[2] == ("back", item) and hears(deed, name_of(taking)):
        return True
    return apart(deed, taking) and any([whole.at_or_beneath(each, item) for each in touched_by(deed)])


def touched_by(deed):
    what = deed[2]
    if what[0] == "put":
        return [name_of(deed)]
    if what[0] == "part":
        return [what[1], name_of(deed)]
    if what[0] == "join":
        return [what[1], what[2]]
    if what[0] in ("take", "off", "on", "none"):
        return []
    return [what[1]]


def report_of(ready):
    turns = last_turns(ready)
    kept = dict([(name, by) for name, item, by in takings_of(ready) if by is not None])
    words = words_of(ready)
    done = [deed for deed, named in zip(ready, words) if named[1] == "done"]
    report = []
    for deed, named in zip(ready, words):
        name = named[0]
        if named[1] == "off":
            report.append((name, "off", name_of(turns[name])))
        elif name in kept:
            report.append((name, "kept", kept[name]))
        else:
            over = first_over(deed, done) if named[1] == "done" else None
            report.append((name, named[1] if over is None else "over", over))
    return report


def first_over(deed, done):
    # A deed that stands ahead of this one in their order is not over it, so what is asked begins behind it.
    if deed[2][0] not in ("move", "write", "mark", "due", "fold"):
        return None
    for later in done[done.index(deed) + 1:]:
        if later[2][:2] == deed[2][:2] and apart(later, deed):
            return name_of(later)
    return None


def history_of(ready):
    gone = {}
    for name, item, by in takings_of(ready):
        if by is None and item not in gone:
            gone[item] = name
    return steps_of(ready) + [(name, ("gone", item)) for item, name in gone.items()]


def outline_of(ready):
    return stepped([step for name, step in history_of(ready)])
