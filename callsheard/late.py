"""A call that is told late: it is known between which places of a log it was made, but not where."""

from callsheard.forms import form_of


def with_late(log, call, place):
    """The log with the call after so many of its calls, a list."""
    return log[:place] + [call] + log[place:]


def late_answer(house, log, call, low, high):
    """The answer about the late call, a tuple."""
    runs = late_runs(house, log, call, low, high)
    if len(runs) == 1:
        return ("sure", runs[0][2])
    return ("open", low, runs[1][0])


def late_runs(house, log, call, low, high):
    """The list of the runs of the late call."""
    runs = []
    for place in range(low, high + 1):
        form = form_of(house, with_late(log, call, place))
        if runs and runs[-1][2] == form:
            runs[-1] = (runs[-1][0], place, form)
        else:
            runs.append((place, place, form))
    return runs
