"""What is ever seen: all pairs that come with a divisor, and the first run that shows a cell."""

from slackfigures.works import TwoRows, serving_figure


def beginnings(kind, divisor):
    """The numbers that a run may begin at, rising."""
    base, most = kind
    reach = most * divisor // (base - 1)
    return list(range(-reach, reach + 1))


class Runs:
    """All runs of a table and a divisor, side by side, each until its pair has come before."""

    def __init__(self, kind, looks, table, divisor):
        self.kind = kind
        self.looks = looks
        self.table = table
        self.divisor = divisor
        # Without figures the divisor is as it is, unscaled.
        self.work = TwoRows(kind, looks, 0, divisor, 0)
        # Runs that come to the same pair go on alike: the one with the least beginning stands for all.
        self.ahead = [(begin, self.work.stand(begin)) for begin in beginnings(kind, divisor)]
        self.come = {pair: True for begin, pair in self.ahead}

    def behind(self, pair, look):
        """The pair of the next step, None where it is spoilt, and whether the step looks at the look."""
        work = self.work
        work.pair = pair
        cell, point = work.seen()
        figure = serving_figure(self.kind, self.looks, self.table, cell, point)
        if figure is None:
            return None, cell[1] == look
        work.take(figure)
        return work.pair, cell[1] == look

    def advance(self, look):
        """Does a step of each run; the beginning of the first one that looks at the look is told, else None."""
        onward = []
        for begin, pair in self.ahead:
            following, looks_there = self.behind(pair, look)
            if looks_there:
                return begin
            if following is not None and following not in self.come:
                self.come[following] = True
                onward.append((begin, following))
        self.ahead = onward
        return None


def stands(kind, looks, table, divisor):
    """All pairs that come, sorted."""
    runs = Runs(kind, looks, table, divisor)
    while runs.ahead:
        runs.advance(None)
    return sorted(runs.come)


def first_showing(kind, looks, table, wide, cell):
    """The shortest run that shows the cell, or that none does and how many stands there are."""
    top, look = cell
    more = wide - looks[0]
    all_runs = [Runs(kind, looks, table, divisor) for divisor in range(top << more, (top + 1) << more)]
    steps = 0
    while any([runs.ahead for runs in all_runs]):
        for runs in all_runs:
            begin = runs.advance(look)
            if begin is not None:
                return "shown", runs.divisor, begin, steps
        steps += 1
    return "never", sum([len(runs.come) for runs in all_runs])
