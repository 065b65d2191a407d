"""The plain store: a value is a value, and a borrow is the place that the borrowed place led to.

A value is its tree. Besides there are ("borrow", spot) and ("task", number), and None stands where a value was moved
away. A spot is a triple of a room, a variable and steps that go through no borrow; the room of a call is a dict from
its variables to their values.
"""

from forklent.instructions import Stopped
from forklent.kinds import fields_of


class Plain:
    """The store of the plain run."""

    def __init__(self, program):
        self.records = program[0]

    def open_room(self, graph, values):
        """The room of a new call."""
        return {name: value for name, value in zip(graph.parameters, values)}

    def close_room(self, call):
        """Nothing is to be done when a call ends."""

    def value_of(self, call, name):
        """The value of a variable or a temporary."""
        return call.room[name]

    def give(self, call, name, value):
        """Give a variable or a temporary a value."""
        call.room[name] = value

    def literal(self, expression):
        """The value of an integer, boolean, unit or none."""
        return ("none",) if expression[0] == "none" else expression

    def simple(self, number):
        """The value of an integer or a boolean."""
        return ("bool" if isinstance(number, bool) else "int", number)

    def task(self, number):
        """The value of a task."""
        return ("task", number)

    def number_of(self, value):
        """The number of an integer, a boolean or a task."""
        return value[1]

    def made(self, shape, values):
        """The value of a some, a box, a tuple or a record."""
        if shape in ("some", "box"):
            return (shape, values[0])
        if shape == "tuple":
            return (shape, tuple(values))
        return ("record", shape, tuple(values))

    def unboxed(self, value, kind):
        """What a box contained."""
        return value[1]

    def tree(self, value, kind):
        """The tree of a value that has no leaves."""
        return value

    def copied(self, call, place):
        """The value of a place."""
        return self.value_at(self.spot_of(call, place))

    def moved(self, call, place):
        """The value of a place, which loses it."""
        return self.swapped(call, place, None)

    def borrowed(self, call, place):
        """A borrow of a place."""
        return ("borrow", self.spot_of(call, place))

    def has_payload(self, call, place):
        """Tell whether the maybe at a place has a payload."""
        return self.copied(call, place)[0] == "some"

    def swapped(self, call, place, value):
        """The old value of a place that gets a new one."""
        room, variable, steps = self.spot_of(call, place)
        along = self.values_along(room[variable], steps)
        old = along.pop()
        for step, whole in zip(steps[::-1], along[::-1]):
            value = self.with_part(whole, step, value)
        room[variable] = value
        return old

    def stored(self, call, place, value):
        """Replace the value of a place."""
        self.swapped(call, place, value)

    def dropped(self, call, name):
        """Drop the value of a variable or a temporary."""
        call.room[name] = None

    def task_at(self, call, leaf):
        """The number of the thread whose task stands at a leaf, or 0 if there is none."""
        variable, steps = leaf
        value = call.room[variable]
        for step in steps:
            if value is None or value[0] == "none":
                return 0
            value = self.part(value, step)
        return 0 if value is None else value[1]

    def spot_of(self, call, place):
        """The spot to which a place leads."""
        variable, steps = place
        spot = (call.room, variable, ())
        value = call.room[variable]
        for step in steps:
            if value[0] == "borrow":
                spot = value[1]
                value = self.value_at(spot)
            else:
                value = self.part(value, step)
                room, name, before = spot
                spot = (room, name, before + (step,))
        return spot

    def value_at(self, spot):
        """The value at a spot."""
        room, variable, steps = spot
        return self.values_along(room[variable], steps)[-1]

    def values_along(self, value, steps):
        """The list of a value and of what each of the steps leads to in it."""
        along = [value]
        for step in steps:
            along.append(self.part(along[-1], step))
        return along

    def part(self, value, step):
        """The part of a value that a step selects."""
        if step == "^":
            return value[1]
        if step == "?":
            if value[0] == "none":
                raise Stopped("empty")
            return value[1]
        return value[-1][self.position(value, step)]

    def with_part(self, value, step, part):
        """A value with another part where a step selects it."""
        if step in ("^", "?"):
            return (value[0], part)
        at = self.position(value, step)
        return value[:-1] + (value[-1][:at] + (part,) + value[-1][at + 1:],)

    def position(self, value, step):
        """The position of an item or a field among the parts of a value."""
        if value[0] == "tuple":
            return step
        return [field for field, _ in fields_of(self.records, value[1])].index(step)
