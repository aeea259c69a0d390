"""Reach: all that is come to step by step from a first stand, each with a shortest row of steps to it."""


# What steps tells of a stand is a list of tuples (step, the stand behind it). The shorter rows come first; when more
# than most stands are found, no further ones are looked for.
def rows_to_all(first, steps, most):
    rows = {first: []}
    newest = [first]
    while newest and len(rows) <= most:
        later = []
        for stand in newest:
            for step, stand_behind in steps(stand):
                if stand_behind not in rows:
                    rows[stand_behind] = rows[stand] + [step]
                    later.append(stand_behind)
        newest = later
    return rows
