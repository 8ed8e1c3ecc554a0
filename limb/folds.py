"""What comes of ready deeds: which count, and how they are played on a plain outline."""

from limb.deeds import name_of
from limb.errors import Beneath, Far, NoItem
from limb.plain import Plain


def counting(ready):
    turns = last_turns(ready)
    return [deed for deed in ready if not is_off(deed, turns)]


def words_of(ready):
    return [(name, word) for name, word, step in played(ready)]


def steps_of(ready):
    return [(name, step) for name, word, step in played(ready) if step is not None]


def is_turn(deed):
    return deed[2][0] in ("off", "on")


def turned_name(deed):
    return (deed[0], deed[2][1])


def last_turns(ready):
    turns = {}
    for deed in ready:
        if is_turn(deed):
            turns[turned_name(deed)] = deed
    return turns


def is_off(deed, turns):
    name = name_of(deed)
    return not is_turn(deed) and name in turns and turns[name][2][0] == "off"


def played(ready):
    # Words and steps come of one playing: each deed is told as (name, word, step), the step None where none was taken.
    turns = last_turns(ready)
    turning = [name_of(deed) for deed in ready if is_turn(deed)]
    outline = Plain()
    told = []
    for deed in ready:
        if is_off(deed, turns):
            outcome = ("off", None)
        elif is_turn(deed):
            outcome = ("turn" if turned_name(deed) in turning else "done", None)
        else:
            outcome = play(deed, outline)
        told.append((name_of(deed),) + outcome)
    return told


def play(deed, outline):
    what = deed[2]
    if what[0] == "none":
        return ("done", None)
    if what[0] in ("take", "back"):
        # What is taken away is known only when all deeds are played, so here it is no step.
        return ("done" if outline.holds(what[1]) else "none", None)
    step = step_of(deed)
    if what[0] == "put" and what[1] is not None and not outline.holds(what[1]):
        step = ("put", step[1], None, step[3], step[4])
        outline.step(step)
        return ("top", step)
    word = word_of_step(outline, step)
    return (word, step if word == "done" else None)


def step_of(deed):
    what = deed[2]
    if what[0] == "put":
        return ("put", name_of(deed)) + what[1:]
    if what[0] == "part":
        return what[:3] + (name_of(deed),) + what[3:]
    return what


def word_of_step(outline, step):
    try:
        outline.step(step)
    except NoItem:
        return "none"
    except Beneath:
        return "beneath"
    except Far:
        return "far"
    return "done"
