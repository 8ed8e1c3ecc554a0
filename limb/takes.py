"""What is taken away by ready deeds, what their hands are told of them, and their history."""

from limb.deeds import name_of
from limb.folds import last_turns, steps_of, words_of
from limb.orders import apart, hears
from limb.plain import Plain


def takings_of(ready):
    words = dict(words_of(ready))
    whole = stepped([step for name, step in steps_of(ready)])
    lasting = [deed for deed in ready if words[name_of(deed)] in ("done", "top")]
    takings = []
    for deed in lasting:
        if deed[2][0] in ("take", "join"):
            item = taken_item(deed)
            takings.append((name_of(deed), item, first_gainsayer(deed, item, lasting, whole)))
    return takings


def stepped(steps):
    outline = Plain()
    for step in steps:
        outline.step(step)
    return outline


def taken_item(deed):
    return deed[2][1] if deed[2][0] == "take" else deed[2][2]


def first_gainsayer(taking, item, lasting, whole):
    for deed in lasting:
        if gainsays(deed, taking, item, whole):
            return name_of(deed)
    return None


def gainsays(deed, taking, item, whole):
    if deed[2] == ("back", item) and hears(deed, name_of(taking)):
        return True
    return apart(deed, taking) and any([whole.at_or_beneath(each, item) for each in touched_by(deed)])


def touched_by(deed):
    what = deed[2]
    if what[0] == "put":
        return [name_of(deed)]
    if what[0] == "part":
        return [what[1], name_of(deed)]
    if what[0] == "join":
        return [what[1], what[2]]
    if what[0] in ("take", "off", "on", "none"):
        return []
    return [what[1]]


def report_of(ready):
    words = words_of(ready)
    turns = last_turns(ready)
    kept = dict([(name, by) for name, item, by in takings_of(ready) if by is not None])
    over = overs_of([deed for deed, named in zip(ready, words) if named[1] == "done"])
    report = []
    for name, word in words:
        if word == "off":
            report.append((name, "off", name_of(turns[name])))
        elif name in kept:
            report.append((name, "kept", kept[name]))
        elif name in over:
            report.append((name, "over", over[name]))
        else:
            report.append((name, word, None))
    return report


def overs_of(done):
    overs = {}
    for at, deed in enumerate(done):
        if deed[2][0] in ("move", "write", "mark", "due", "fold"):
            later = [each for each in done[at + 1:] if each[2][:2] == deed[2][:2] and apart(each, deed)]
            if len(later) > 0:
                overs[name_of(deed)] = name_of(later[0])
    return overs


def history_of(ready):
    gone = {}
    for name, item, by in takings_of(ready):
        if by is None and item not in gone:
            gone[item] = name
    return steps_of(ready) + [(name, ("gone", item)) for item, name in gone.items()]


def outline_of(ready):
    return stepped([step for name, step in history_of(ready)])
