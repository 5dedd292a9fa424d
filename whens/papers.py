"""Papers moved: laid behind rows that stand already, and retold for talks that have the sayings at other numbers."""

# In steps of these words numbers of rows stand behind the word, ahead of this place; others have none.
ROW_NUMBERS_END = {"turned": 2, "behind": 3, "both": 3, "ends": 2, "strike": 3, "add": 3, "cases": 2}


def rows_named(step):
    """The numbers of rows in a step; those in papers of cases set aside."""
    return step[1:ROW_NUMBERS_END.get(step[0], 1)]


def with_rows(step, numbers):
    """The step with other numbers of rows."""
    return step[:1] + tuple(numbers) + step[1 + len(numbers):]


def laid_step(step, many):
    """The step with each number of a row so many more, in papers of cases, too."""
    laid = with_rows(step, [number + many for number in rows_named(step)])
    if step[0] == "cases":
        return laid[:2] + (tuple([(words, laid_behind(paper, many)) for words, paper in step[2]]),)
    return laid


def laid_behind(paper, many):
    """The paper laid behind so many rows."""
    return tuple([laid_step(step, many) for step in paper])


def retold_step(step, numbers):
    """The step with each saying's number as the numbers have it, in papers of cases, too."""
    if step[0] == "told":
        return ("told", numbers[step[1]])
    if step[0] == "cases":
        return step[:2] + (tuple([(words, retold(paper, numbers)) for words, paper in step[2]]),)
    return step


def retold(paper, numbers):
    """The paper with the saying number numbers[k] in the place of saying k."""
    return tuple([retold_step(step, numbers) for step in paper])
