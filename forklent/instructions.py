"""Instructions: what each of them does in a run, whatever store the run has.

Each function of an instruction is passed the run, the thread, the thread's innermost call and the instruction. Those
of GIVING return the value that the instruction's temporary gets; those of DOING do the rest themselves.
"""

from forklent.errors import ForkError

MOST_CALLS = 16
MOST_ENTRIES = 6


class Stopped(ForkError):
    """A thread stops for a reason."""

    def __init__(self, reason):
        self.reason = reason


class Gone(ForkError):
    """An instruction needs a box or a thread, and only the place is left in which it stood."""


def wrapped(number):
    """The integer of the language that differs from a number by a multiple of 4294967296."""
    return (number + 2147483648) % 4294967296 - 2147483648


def outcome(sign, left, right):
    """What an operation gives."""
    if sign == "+":
        return wrapped(left + right)
    if sign == "-":
        return wrapped(left - right)
    if sign == "*":
        return wrapped(left * right)
    if sign == "<":
        return left < right
    if sign == "==":
        return left == right
    if sign == "and":
        return bool(left) and bool(right)
    return bool(left) or bool(right)


def taken(run, call, names):
    """The list of the values of several temporaries."""
    return [run.store.value_of(call, name) for name in names]


def number_in(run, call, name):
    """The number of a temporary that has an integer, a boolean or a task."""
    return run.store.number_of(run.store.value_of(call, name))


def give_literal(run, thread, call, instruction):
    """`set`: the value of an integer, boolean, unit or none."""
    return run.store.literal(instruction[2])


def give_whole(run, thread, call, instruction):
    """`make`: a value made of others."""
    return run.store.made(instruction[2], taken(run, call, instruction[3]))


def give_content(run, thread, call, instruction):
    """`unbox`: what a box contained."""
    _, temporary, box = instruction
    return run.store.unboxed(run.store.value_of(call, box), call.graph.kinds[temporary])


def give_copy(run, thread, call, instruction):
    """`copy`: the value of a place."""
    return run.store.copied(call, instruction[2])


def give_moved(run, thread, call, instruction):
    """`move`: the value of a place, which loses it."""
    return run.store.moved(call, instruction[2])


def give_borrow(run, thread, call, instruction):
    """`borrow`: a borrow of a place."""
    return run.store.borrowed(call, instruction[3])


def give_presence(run, thread, call, instruction):
    """`is`: whether a place has a payload."""
    return run.store.simple(run.store.has_payload(call, instruction[2]))


def give_replaced(run, thread, call, instruction):
    """`swap`: the old value of a place that gets a new one."""
    _, _, place, part = instruction
    return run.store.swapped(call, place, run.store.value_of(call, part))


def give_outcome(run, thread, call, instruction):
    """`op`: what an operation gives."""
    _, _, sign, left, right = instruction
    return run.store.simple(outcome(sign, number_in(run, call, left), number_in(run, call, right)))


def give_opposite(run, thread, call, instruction):
    """`not`: the other boolean."""
    return run.store.simple(not number_in(run, call, instruction[2]))


def give_task(run, thread, call, instruction):
    """`spawn`: the task of a new thread."""
    _, _, name, parts = instruction
    if len(thread.path) == MOST_ENTRIES:
        raise Stopped("deep")
    number = run.start(thread.path + (thread.spawned,), name, taken(run, call, parts))
    thread.spawned += 1
    return run.store.task(number)


def give_result(run, thread, call, instruction):
    """`join`: what the function of a thread returned."""
    number = number_in(run, call, instruction[2])
    if number not in run.threads:
        raise Gone("the task was moved away")
    return run.threads[number].returned


def do_let(run, thread, call, instruction):
    """`let`: give a variable its first value."""
    _, name, part = instruction
    run.store.give(call, name, run.store.value_of(call, part))
    call.go_on(0)


def do_store(run, thread, call, instruction):
    """`store`: replace the value of a place, and drop the old one."""
    _, place, part = instruction
    run.store.stored(call, place, run.store.value_of(call, part))
    call.go_on(0)


def do_drop(run, thread, call, instruction):
    """`drop`: drop the value of a variable or a temporary."""
    run.store.dropped(call, instruction[1])
    call.go_on(0)


def do_print(run, thread, call, instruction):
    """`print`: print an integer."""
    thread.printed.append(number_in(run, call, instruction[1]))
    call.go_on(0)


def do_test(run, thread, call, instruction):
    """`test`: go on at the first successor if a boolean is True, otherwise at the second one."""
    call.go_on(0 if number_in(run, call, instruction[1]) else 1)


def do_jump(run, thread, call, instruction):
    """`jump`: go on at the successor."""
    call.go_on(0)


def do_call(run, thread, call, instruction):
    """`call`: begin a call. The caller stays at this point until the call has ended."""
    _, _, name, parts = instruction
    if len(thread.calls) == MOST_CALLS:
        raise Stopped("deep")
    thread.calls.append(run.open_call(name, taken(run, call, parts)))


def do_leave(run, thread, call, instruction):
    """`leave`: end a call, or the thread if it has no other one."""
    value = run.store.value_of(call, instruction[1])
    if len(thread.calls) == 1:
        tree = run.store.tree(value, thread.result)
        run.store.close_room(call)
        thread.returned = value
        thread.ending = ("returned", tree)
    else:
        run.store.close_room(call)
        thread.calls.pop()
        caller = thread.calls[-1]
        run.store.give(caller, caller.coming()[1], value)
        caller.go_on(0)


def do_stop(run, thread, call, instruction):
    """`stop`: the function has reached its end and has nothing to return."""
    raise Stopped("no value")


GIVING = {
    "set": give_literal, "make": give_whole, "unbox": give_content, "copy": give_copy, "move": give_moved,
    "borrow": give_borrow, "is": give_presence, "swap": give_replaced, "op": give_outcome, "not": give_opposite,
    "spawn": give_task, "join": give_result,
}
DOING = {
    "let": do_let, "store": do_store, "drop": do_drop, "print": do_print, "test": do_test, "jump": do_jump,
    "call": do_call, "leave": do_leave, "stop": do_stop,
}
