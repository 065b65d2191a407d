"""The meaning of a program: the logs of its plain run."""

from forklent.plain import Plain
from forklent.running import Run, path_of, require_accepted


def meaning(program, arguments, limit):
    """The logs of the plain run of a program that is accepted."""
    require_accepted(program)
    run = Run(program, Plain(program), {})
    run.begin(arguments)
    # For each thread that was run, by its number: how many instructions it executed.
    counts = {}
    thread = run.threads[1]
    while thread is not None:
        run_through(run, thread, limit, counts)
        thread = first_left(run, counts)
    return run.logs()


def first_left(run, counts):
    """The thread with the lowest path of those that were not run yet, or None."""
    left = [thread for thread in run.threads.values() if thread.number not in counts]
    return min(left, key=path_of, default=None)


def run_through(run, thread, limit, counts):
    """Run a thread as far as it goes, and each thread that it waits for before it goes on."""
    # A list instead of calls within calls: threads may wait for one another in a long row.
    begun = [thread]
    counts[thread.number] = 0
    while begun:
        other = go_on(run, begun[-1], limit, counts)
        if other is None:
            begun.pop()
        else:
            counts[other.number] = 0
            begun.append(other)


def go_on(run, thread, limit, counts):
    """Let a thread go on, and return the thread that is to be run before it goes on further, or None."""
    while not thread.has_ended() and counts[thread.number] < limit:
        waiting = [other for other in run.awaited(thread) if not other.has_ended()]
        if waiting:
            # Whatever was run and has not ended cannot go on, and neither can who waits for it.
            return min([other for other in waiting if other.number not in counts], key=path_of, default=None)
        run.execute(thread)
        counts[thread.number] += 1
    return None
