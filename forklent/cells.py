"""The store in a memory: values are tuples of cells, and the room of a call is the address of its block."""

from forklent.instructions import Gone, Stopped
from forklent.kinds import kind_after
from forklent.layout import cells_before, frame
from forklent.shapes import Shapes, filled


class Way:
    """How to get to a place from the room of a call.

    Each stop is a pair of a step "^" or "?" and the number of cells before the cell that is read for it. Behind the
    last stop lie `rest` more cells before the place, which has the shape `shape` and the kind `kind`.
    """

    def __init__(self, stops, rest, shape, kind):
        self.stops = stops
        self.rest = rest
        self.shape = shape
        self.kind = kind


class Cells:
    """The store of a run in a memory. The threads are a dict from their numbers."""

    def __init__(self, program, threads, memory):
        self.program = program
        self.threads = threads
        self.memory = memory
        self.shapes = Shapes(program)
        # The frames by the names of the functions, and the ways by these names and the places.
        self.frames = {}
        self.ways = {}

    def open_room(self, graph, values):
        """The block of a new call."""
        if graph.name not in self.frames:
            self.frames[graph.name] = frame(self.program, graph)
        offsets = self.frames[graph.name]
        address = self.memory.allocate(offsets[""])
        for name, value in zip(graph.parameters, values):
            self.memory.write_row(address + offsets[name], value)
        return address

    def close_room(self, call):
        """Release the block of a call that ends."""
        self.memory.release(call.room, self.frames[call.graph.name][""])

    def way_to(self, call, place):
        """The way to a place."""
        key = (call.graph.name, place)
        if key not in self.ways:
            self.ways[key] = self.new_way(call.graph, place)
        return self.ways[key]

    def new_way(self, graph, place):
        """The way to a place, worked out from the kinds that it goes through."""
        variable, steps = place
        kind = graph.kinds[variable]
        stops = []
        ahead = self.frames[graph.name][variable]
        for step in steps:
            if step in ("^", "?"):
                stops.append((step, ahead))
                ahead = 0
            if step != "^":
                ahead += cells_before(self.program[0], self.shapes.sizes, kind, step)
            kind = kind_after(self.program[0], kind, step)
        return Way(stops, ahead, self.shapes.shape_of(kind), kind)

    def locate(self, call, way):
        """The address to which a way leads."""
        address = call.room
        for step, ahead in way.stops:
            address += ahead
            number = self.memory.read(address)
            if number == 0 and step == "^":
                raise Gone("the box was moved away")
            if number == 0:
                raise Stopped("empty")
            if step == "^":
                address = number
        return address + way.rest

    def value_of(self, call, name):
        """The cells of a variable or a temporary."""
        return self.copied(call, (name, ()))

    def give(self, call, name, value):
        """Give a variable or a temporary a value."""
        self.memory.write_row(call.room + self.frames[call.graph.name][name], value)

    def literal(self, expression):
        """The cells of an integer, boolean, unit or none."""
        word = expression[0]
        if word == "none":
            return (0,) * (1 + self.shapes.shape_of(expression[1]).size)
        return (0,) if word == "unit" else self.simple(expression[1])

    def simple(self, number):
        """The cells of an integer or a boolean."""
        return (int(number),)

    def task(self, number):
        """The cells of a task."""
        return (number,)

    def number_of(self, value):
        """The number of an integer, a boolean or a task."""
        return value[0]

    def made(self, shape, values):
        """The cells of a some, a box, a tuple or a record."""
        row = tuple([number for value in values for number in value])
        if shape == "some":
            return (1,) + row
        if shape != "box":
            return row
        address = self.memory.allocate(len(row))
        self.memory.write_row(address, row)
        return (address,)

    def unboxed(self, value, kind):
        """What a box contained, whose block is released."""
        # A box that was moved away leaves 0 behind, where no block stands.
        address = value[0]
        many = self.shapes.shape_of(kind).size
        row = self.memory.read_row(address, many)
        self.memory.release(address, many)
        return row

    def copied(self, call, place):
        """The cells of a place."""
        way = self.way_to(call, place)
        return self.memory.read_row(self.locate(call, way), way.shape.size)

    def moved(self, call, place):
        """The cells of a place, which are 0 from then on."""
        many = self.way_to(call, place).shape.size
        return self.swapped(call, place, (0,) * many)

    def borrowed(self, call, place):
        """A borrow of a place: its address."""
        return (self.locate(call, self.way_to(call, place)),)

    def has_payload(self, call, place):
        """Tell whether the maybe at a place has a payload."""
        return self.memory.read(self.locate(call, self.way_to(call, place))) != 0

    def swapped(self, call, place, value):
        """The old cells of a place that gets a new value."""
        way = self.way_to(call, place)
        address = self.locate(call, way)
        row = self.memory.read_row(address, way.shape.size)
        self.memory.write_row(address, value)
        return row

    def stored(self, call, place, value):
        """Drop the value of a place, and put another one there."""
        way = self.way_to(call, place)
        address = self.locate(call, way)
        self.drop_at(address, way)
        self.memory.write_row(address, value)

    def dropped(self, call, name):
        """Drop the value of a variable or a temporary."""
        way = self.way_to(call, (name, ()))
        self.drop_at(self.locate(call, way), way)

    def drop_at(self, address, way):
        """Drop the value at an address, to which a way leads."""
        many = way.shape.size
        self.drop_boxes(self.boxes_in(way.kind, self.memory.read_row(address, many)))
        self.memory.write_row(address, (0,) * many)

    def boxes_in(self, kind, row):
        """The list of the boxes in a value, with those in what its threads returned: pairs of kind and address."""
        boxes = []
        for word, at, _, inside in filled(self.shapes.shape_of(kind).spots, row):
            if word == "box":
                boxes.append((inside, row[at]))
            elif row[at] in self.threads:
                thread = self.threads[row[at]]
                boxes.extend(self.boxes_in(thread.result, thread.returned))
        return boxes

    def drop_boxes(self, boxes):
        """Drop boxes in their order, each after its content."""
        # Without calls within calls, as boxes may stand in one another in a long row: the last box is taken first
        # and stands before its content, so that the list is right when it is read from its end.
        found = []
        seen = {}
        while boxes:
            kind, address = boxes.pop()
            many = self.shapes.shape_of(kind).size
            found.append((address, many))
            if address not in seen:
                seen[address] = True
                boxes.extend(self.boxes_in(kind, self.memory.read_row(address, many)))
        for address, many in reversed(found):
            self.memory.release(address, many)

    def task_at(self, call, leaf):
        """The number of the thread whose task stands at a leaf, or 0 if there is none."""
        # No borrow and no box lies on the way to a task, so all its cells lie in the room. Those of a payload that is
        # not there are 0. To look at them does not count as reading.
        way = self.way_to(call, leaf)
        return self.memory.peek(call.room + sum([ahead for _, ahead in way.stops]) + way.rest)

    def tree(self, value, kind):
        """The tree of a value without leaves. To tell it reads nothing."""
        # Without calls within calls, too: first all contents, the outer before the inner ones, then all trees, the
        # inner before the outer ones. No block begins at 0, so this can be the address of the value itself.
        found = [(0, kind, value)]
        seen = {}
        at = 0
        while at < len(found):
            _, inside, row = found[at]
            found.extend(self.contents_of(inside, row, seen))
            at += 1
        trees = {}
        for address, inside, row in reversed(found):
            trees[address] = self.shapes.tree(inside, row, 0, trees)
        return trees[0]

    def contents_of(self, kind, row, seen):
        """The list of what the boxes in a value contain, each as address, kind and cells."""
        found = []
        for _, at, guards, inside in self.shapes.shape_of(kind).spots:
            if all(row[guard] != 0 for guard in guards):
                address = row[at]
                if address in seen:
                    raise Gone("the box contains itself")
                seen[address] = True
                # A box that was moved away leaves 0 behind, where no block stands.
                found.append((address, inside, self.memory.peek_row(address, self.shapes.shape_of(inside).size)))
        return found
