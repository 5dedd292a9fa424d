"""Papers of every step, let by and not, for the tests that turn papers about and give their things other names."""

import itertools

from whens.closing import closed
from whens.judging import judged

from hard_talks import hard_talks
from oracle import row_given, some_saying, some_talk, some_things
from sought_talks import near_talk, packed_talks, unlike_points

P, S = "point", "stretch"

# Shut papers, each with the talk that it is for; together they have every step.
WRITTEN = (
    (((("a", P), ("s", S)), (("may", "a", "s", ("begins", "within", "behind")), ("gap", ("a", 0), ("s", 0), (0, 1), True))),
     (("told", 0), ("told", 1), ("strike", 0, 1))),
    (((("a", S), ("b", S)), (("may", "a", "b", ("meets", "overlaps")), ("gap", ("b", 1), ("a", 0), (0, 1), False))),
     (("told", 0), ("ends", 0, ("a", 0), ("b", 0)), ("long", "b"), ("add", 1, 2), ("told", 1), ("add", 3, 4))),
    (((("a", S), ("b", S), ("c", P)), (("may", "a", "b", ("begins",)), ("may", "c", "b", ("ahead",)),
                                       ("may", "c", "a", ("ends", "behind")))),
     (("told", 0), ("told", 1), ("turned", 1), ("behind", 0, 2), ("told", 2), ("turned", 4), ("both", 3, 5))),
    (((("a", S), ("b", S)), (("gap", ("a", 1), ("b", 0), (-1, 1), False), ("gap", ("b", 0), ("a", 1), (0, 1), True))),
     (("any", "b", "a"), ("told", 0), ("told", 1),
      ("cases", 0, ((("ahead", "meets"), (("strike", 3, 1),)),
                    (("overlaps", "begins", "within", "ends", "same", "ended", "holds", "begun", "lapped"),
                     (("turned", 3), ("cases", 4, (
                         (("overlaps", "begins", "within"), (("strike", 5, 1),)),
                         (("ends", "same", "ended", "holds", "begun", "lapped"), (("ends", 5, ("b", 0), ("a", 1)), ("add", 1, 2))),
                     )))),
                    (("met",), (("strike", 3, 1),)),
                    (("met", "behind"), (("add", 1, 2),)))))),
)


def shut_papers(dice, many):
    """Talks with shut papers of theirs."""
    found = list(WRITTEN)
    found += [(talk, judged(talk)[1]) for talk in hard_talks()[:6]]
    found += [(talk, judged(talk)[1]) for talk, can in packed_talks() if not can]
    found.append((unlike_points(), judged(unlike_points())[1]))
    while len(found) < many:
        talk = near_talk(dice, dice.randrange(1, 6), dice.randrange(9), dice.randrange(9), 6, 0)
        word, paper = judged(talk)
        if word == "no":
            found.append((talk, paper))
        talk = some_talk(dice, some_things(dice, dice.randrange(2, 7)), 8, 0, 4)
        word, paper = closed(talk)
        if word == "clash":
            found.append((talk, paper))
    return found


def some_step(dice, talk, many):
    """Numbers and names of a step, of which not each gives a row."""
    things, sayings = talk
    names = [name for name, kind in things]
    ends = [(name, number) for name, kind in things for number in ((0,) if kind == P else (0, 1))]
    word = dice.choice(("told", "any", "long", "turned", "behind", "both", "ends", "ends", "strike", "add", "add"))
    if word == "told":
        return (word, dice.randrange(len(sayings) + 1))
    if word == "any":
        return (word, dice.choice(names), dice.choice(names))
    if word == "long":
        return (word, dice.choice(names))
    if word == "turned":
        return (word, dice.randrange(many + 1))
    if word == "ends":
        return (word, dice.randrange(many + 1), dice.choice(ends), dice.choice(ends))
    return (word, dice.randrange(many + 1), dice.randrange(many + 1))


def loose_papers(dice, many):
    """Talks with papers of any steps, few of them shut, some with a step that gives no row."""
    for at in range(many):
        things = some_things(dice, dice.randrange(2, 5))
        talk = (things, tuple(some_saying(dice, things) for place in range(dice.randrange(1, 6))))
        rows, steps = [], []
        while len(steps) < dice.randrange(1, 16):
            step = some_step(dice, talk, len(rows))
            row = row_given(talk, rows, step)
            if row is None and dice.random() < 0.98:
                continue
            steps.append(step)
            if row is None:
                break
            rows.append(row)
        yield talk, tuple(steps)


def struck_papers(dice, papers):
    """Of papers those with a step struck or exchanged for another one's."""
    for talk, paper in papers:
        at = dice.randrange(len(paper))
        yield talk, paper[:at] + paper[at + 1:]
        if len(paper) > 1:
            other = dice.randrange(len(paper) - 1)
            yield talk, paper[:at] + paper[other:other + 1] + paper[at + 1:]


def steps_in(paper):
    """The words of all steps of a paper, within cases, too."""
    found = set()
    for step in paper:
        found.add(step[0])
        if step[0] == "cases":
            found |= set(itertools.chain(*[steps_in(inner) for words, inner in step[2]]))
    return found
