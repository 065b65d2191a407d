import copy
import unittest

from building import (
    BOX, EXCLUSIVE, INT, SHARED, TASK, TRUE, UNIT, at, box, call, do, give, items, join, let, main, maybe, num, of, op,
    seize, show, spawn, store, use,
)
from forklent.errors import ForkError, Refused
from forklent.kinding import check_kinds
from forklent.machine import run_memory, trace_memory
from forklent.meaning import meaning
from promises import ADD, EXAMPLE, FALL, NOTHING, ONE, PAIR, RUNNING, PromiseCase, blocks_left

DONE = ("returned", NOTHING)
# 20 instructions that print the numbers from 0 to 9, and `set` and `leave`.
TELL = ("tell", (), UNIT, (), tuple(show(num(number)) for number in range(10)))
THREE = ((), (TELL, main(let("a", spawn("tell")), let("b", spawn("tell")), let("c", spawn("tell")))))
# spawn, let, three times; the drops of c, b and a; set, leave.
MAIN_OF_THREE = 11


def turns_of_three(schedule, limit):
    """How many instructions main and its threads execute in the program THREE, from the words of section 41."""
    done = {(): 0}
    for turn in range(limit):
        ready = []
        for path in sorted(done):
            if path == ():
                # At its drops main waits for the threads c, b and a.
                waits = done[()] in (6, 7, 8) and done[(8 - done[()],)] < 22
                if done[()] < MAIN_OF_THREE and not waits:
                    ready.append(path)
            elif done[path] < 22:
                ready.append(path)
        if not ready:
            break
        chosen = ready[schedule[turn % len(schedule)] % len(ready)]
        if chosen == () and done[()] in (0, 2, 4):
            done[(done[()] // 2,)] = 0
        done[chosen] += 1
    return done


def logs_of_three(done):
    logs = []
    for path in sorted(done):
        last = MAIN_OF_THREE if path == () else 22
        printed = () if path == () else tuple(range(min(10, done[path] // 2)))
        logs.append((path, DONE if done[path] == last else RUNNING, printed))
    return tuple(logs)


class TestTurns(PromiseCase):
    def test_which_thread_is_next(self):
        program = self.accepted(THREE)
        for schedule in ((0,), (1,), (2,), (3,), (0, 1), (1, 0), (5, 3, 8, 1), (0, 0, 1, 2, 3, 7, 100), (12, 1, 0)):
            for limit in (*range(0, 40), 50, 60, 70, 76, 77, 78, 100):
                done = turns_of_three(schedule, limit)
                self.assertEqual(run_memory(program, (), schedule, limit), logs_of_three(done), (schedule, limit))

    def test_the_empty_schedule(self):
        program = self.accepted(THREE)
        for limit in (0, 1, 5, 10, 30, 60, 100):
            self.assertEqual(run_memory(program, (), (), limit), run_memory(program, (), (0,), limit))

    def test_each_instruction_is_a_turn(self):
        program = self.accepted(((), (main(show(num(1)), show(num(2))),)))
        for limit in range(10):
            self.assertEqual(
                run_memory(program, (), (3, 1), limit),
                (((), DONE if limit >= 6 else RUNNING, (1, 2)[:limit // 2]),))

    def test_a_thread_that_waits_is_not_taken(self):
        # main: spawn, let, move, join, print, drop, set, leave; the thread: set, print, set, leave.
        program = self.accepted(((), (ONE, main(let("t", spawn("one")), show(join(use("t")))))))
        for limit in range(3):
            self.assertEqual(run_memory(program, (), (0,), limit)[0], ((), RUNNING, ()))
        for limit, printed in ((3, ()), (4, ()), (5, (1,)), (6, (1,))):
            self.assertEqual(
                run_memory(program, (), (0,), limit), (((), RUNNING, ()), ((0,), RUNNING, printed)), limit)
        ended = ((0,), ("returned", num(1)), (1,))
        for limit in (7, 8):
            self.assertEqual(run_memory(program, (), (0,), limit), (((), RUNNING, ()), ended))
        for limit in (9, 10, 11):
            self.assertEqual(run_memory(program, (), (0,), limit), (((), RUNNING, (1,)), ended))
        self.assertEqual(run_memory(program, (), (0,), 12), (((), DONE, (1,)), ended))

    def test_the_example(self):
        program = self.accepted(EXAMPLE)
        wanted = (
            ((), ("returned", num(12)), (6, 6)), ((0,), ("returned", num(6)), ()), ((1,), ("returned", num(12)), ()))
        for schedule in ((), (0,), (1,), (2,), (1, 0, 2), (0, 0, 5), (7, 3, 2, 9)):
            self.assertEqual(run_memory(program, (5,), schedule, 200), wanted)
            # 24 instructions of main, and eight of each thread.
            self.assertEqual(run_memory(program, (5,), schedule, 40), wanted)
            self.assertNotEqual(run_memory(program, (5,), schedule, 39), wanted)
        self.assertEqual(self.keep(program, (5,)), wanted)
        for limit in range(0, 40):
            self.keep(program, (5,), limit)

    def test_endings_of_single_threads(self):
        for block, ending in (
                ((show(num(1)),), ("stopped", "no value")),
                ((let("m", ("none", INT)), give(use("m", "?"))), ("stopped", "empty"))):
            program = self.accepted(((), (main(*block, result=INT),)))
            self.assertEqual(run_memory(program, (), (), 100)[0][1], ending)

    def test_who_stops_within_a_row_of_threads(self):
        wait = ("wait", (("t", TASK),), INT, (), (show(num(3)), give(join(use("t")))))
        program = self.accepted(((), (FALL, wait, main(do(join(spawn("wait", spawn("fall"))))))))
        stopped = ("stopped", "no value")
        for schedule in ((0,), (1,), (2,), (0, 1, 2)):
            self.assertEqual(
                run_memory(program, (), schedule, 100), (((), stopped, ()), ((0,), stopped, (7,)),
                    ((1,), stopped, (3,))))
        # Nobody stops before the thread does that they wait for.
        self.assertEqual(
            run_memory(program, (), (0,), 4), (((), RUNNING, ()), ((0,), RUNNING, (7,)), ((1,), RUNNING, ())))


class TestTrace(PromiseCase):
    def events_of(self, *block, functions=(), records=(), schedule=(0,), limit=1000, **more):
        program = self.accepted((records, (*functions, main(*block, **more))))
        self.keep(program, limit=limit)
        before = copy.deepcopy(program)
        events = trace_memory(program, (), schedule, limit)
        self.assertEqual(program, before)
        self.assertIs(type(events), tuple)
        return list(events)

    def test_the_block_of_main(self):
        self.assertEqual(self.events_of(limit=0), [("allocate", (), 1, 1)])
        self.assertEqual(self.events_of(limit=1), [("allocate", (), 1, 1)])
        self.assertEqual(self.events_of(), [("allocate", (), 1, 1), ("release", (), 1)])
        self.assertEqual(self.events_of(result=INT), [("allocate", (), 1, 1)])
        self.assertEqual(self.events_of(show(num(1)), show(num(2)))[0], ("allocate", (), 1, 3))

    def test_calls(self):
        inner = ("inner", (("n", INT),), INT, (), (give(use("n")),))
        outer = ("outer", (), INT, (), (give(op("+", call("inner", num(1)), call("inner", num(2)))),))
        # main: #0, #1; outer: five temporaries; inner: n and #0.
        self.assertEqual(self.events_of(do(call("outer")), functions=(inner, outer)), [
            ("allocate", (), 1, 2), ("allocate", (), 3, 5), ("allocate", (), 8, 2), ("release", (), 8),
            ("allocate", (), 8, 2), ("release", (), 8), ("release", (), 3), ("release", (), 1)])

    def test_threads(self):
        # The one who spawns allocates, the thread itself releases.
        block = (let("a", spawn("one")), let("b", spawn("one")))
        self.assertEqual(self.events_of(*block, functions=(ONE,)), [
            ("allocate", (), 1, 5), ("allocate", (), 6, 2), ("allocate", (), 8, 2), ("release", (0,), 6),
            ("release", (1,), 8), ("release", (), 1)])
        self.assertEqual(self.events_of(*block, functions=(ONE,), schedule=(1,)), [
            ("allocate", (), 1, 5), ("allocate", (), 6, 2), ("release", (0,), 6), ("allocate", (), 6, 2),
            ("release", (1,), 6), ("release", (), 1)])

    def test_threads_of_threads_and_calls_in_threads(self):
        fork = ("fork", (), INT, (), (give(op("+", join(spawn("one")), call("one"))),))
        events = self.events_of(do(join(spawn("fork"))), functions=(ONE, fork))
        # main: #0, #1, #2; fork: #0 to #3; one: #0 and #1.
        self.assertEqual(events, [
            ("allocate", (), 1, 3), ("allocate", (), 4, 4), ("allocate", (0,), 8, 2), ("release", (0, 0), 8),
            ("allocate", (0,), 8, 2), ("release", (0,), 8), ("release", (0,), 4), ("release", (), 1)])

    def test_what_is_in_a_box_goes_before_the_box(self):
        events = self.events_of(
            let("p", ("tuple", (("box", ("tuple", (("box", ("box", num(1))), ("box", num(2))))), ("box", num(3))))))
        # Ten temporaries: #0 int, #1 box, #2 box of a box, #3 int, #4 box, #5 tuple, #6 box, #7 int, #8 box, #9 tuple.
        self.assertEqual(events[0], ("allocate", (), 1, 15))
        made = [("allocate", (), 16, 1), ("allocate", (), 17, 1), ("allocate", (), 18, 1), ("allocate", (), 19, 2),
                ("allocate", (), 21, 1)]
        self.assertEqual(events[1:6], made)
        self.assertEqual(events[6:], [("release", (), address) for address in (16, 17, 18, 19, 21, 1)])

    def test_fields_and_payloads(self):
        events = self.events_of(
            let("p", ("record", "Pair", (num(1), ("box", num(2))))), let("m", ("some", ("some", ("box", num(3))))),
            let("z", ("none", BOX)), let("x", ("box", use("m"))), records=(PAIR,))
        begun = [event[2] for event in events if event[0] == "allocate"][1:]
        # The last variable is dropped first: x with the box of m in it, then p; m and z have nothing to drop.
        self.assertEqual([event[2] for event in events if event[0] == "release"], [begun[1], begun[2], begun[0], 1])
        self.assertEqual([event[3] for event in events if event[0] == "allocate"][1:], [1, 1, 3])

    def test_a_box_that_was_moved_is_passed_over(self):
        events = self.events_of(
            let("p", ("tuple", (("box", num(1)), ("box", num(2))))), let("x", use("p", 0)), show(num(1)))
        size = events[0][3]
        # First x with the first box is dropped, then what is left in p.
        self.assertEqual(events[1:], [
            ("allocate", (), size + 1, 1), ("allocate", (), size + 2, 1), ("release", (), size + 1),
            ("release", (), size + 2), ("release", (), 1)])

    def test_a_payload_that_was_moved(self):
        events = self.events_of(let("m", ("some", ("box", num(1)))), do(use("m", "?")), show(num(1)))
        self.assertEqual([event[0] for event in events], ["allocate", "allocate", "release", "release"])

    def test_a_store_drops_the_old_value_when_the_new_one_is_there(self):
        events = self.events_of(let("x", ("box", num(1))), store(at("x"), ("box", num(2))),
            store(at("x"), ("box", num(3))))
        size = events[0][3]
        first, second = size + 1, size + 2
        self.assertEqual(events[1:], [
            ("allocate", (), first, 1), ("allocate", (), second, 1), ("release", (), first), ("allocate", (), first, 1),
            ("release", (), second), ("release", (), first), ("release", (), 1)])

    def test_swaps_release_nothing_and_unboxes_do(self):
        events = self.events_of(
            let("x", ("box", num(1))), let("y", ("swap", at("x"), ("box", num(2)))), show(("unbox", use("x"))),
            show(("unbox", use("y"))))
        size = events[0][3]
        self.assertEqual(events[1:], [
            ("allocate", (), size + 1, 1), ("allocate", (), size + 2, 1), ("release", (), size + 2),
            ("release", (), size + 1), ("release", (), 1)])

    def test_the_lowest_address_with_enough_room(self):
        wide = ("tuple", (num(1), num(2), num(3)))
        events = self.events_of(
            let("x", ("box", num(1))), let("y", ("box", wide)), do(("unbox", use("x"))),
            let("z", ("box", ("tuple", (num(1), num(2))))),
            let("w", ("box", num(5))))
        size = events[0][3]
        self.assertEqual([event[2] - size for event in events[1:] if event[0] == "allocate"], [1, 2, 5, 1])

    def test_what_a_thread_returned_is_dropped_by_who_drops_the_task(self):
        work = ("work", (), items(BOX, BOX), (), (give(("tuple", (("box", num(1)), ("box", num(2))))),))
        events = self.events_of(
            let("q", ("tuple", (("box", num(3)), spawn("work"), ("box", num(4))))), functions=(work,))
        size = events[0][3]
        released = [event[1:] for event in events if event[0] == "release"]
        begun = {event[1:] for event in events if event[0] == "allocate"}
        # main's boxes stand before and behind the block of the thread: #0 to #3 and the tuple, six cells.
        self.assertLessEqual({((), size + 1, 1), ((), size + 2, 6), ((), size + 8, 1), ((0,), size + 9, 1),
                              ((0,), size + 10, 1)}, begun)
        # In the order of the cells: main's first box, what the thread returned, main's last box.
        self.assertEqual(released, [
            ((0,), size + 2), ((), size + 1), ((), size + 9), ((), size + 10), ((), size + 8), ((), 1)])

    def test_the_boxes_of_the_result_stay(self):
        events = self.events_of(
            give(("tuple", (("box", ("box", num(1))), ("some", ("box", num(2)))))), let("x", ("box", num(3))),
            result=items(box(INT, 2), maybe(BOX)))
        self.assertEqual(len(blocks_left(events)), 3)
        self.assertEqual(events[-1], ("release", (), 1))

    def test_a_thread_that_stopped_releases_nothing(self):
        events = self.events_of(let("x", ("box", num(1))), show(call("fall")), functions=(FALL,))
        self.assertEqual([event[0] for event in events], ["allocate"] * 3)

    def test_a_waiting_store_whose_thread_stopped_releases_nothing(self):
        events = self.events_of(
            let("p", ("tuple", (("box", num(1)), spawn("fall")))),
            store(at("p"), ("tuple", (("box", num(2)), spawn("one")))),
            functions=(FALL, ONE))
        self.assertEqual([event[1] for event in events if event[0] == "release"], [(1,)])

    def test_the_example(self):
        program = self.accepted(EXAMPLE)
        self.assertEqual(trace_memory(program, (5,), (0,), 200), (
            ("allocate", (), 1, 20), ("allocate", (), 21, 6), ("allocate", (), 27, 6), ("release", (0,), 21),
            ("release", (1,), 27), ("release", (), 1)))
        # The second thread goes before the first one, and before main goes on.
        self.assertEqual(trace_memory(program, (5,), (0,) * 12 + (2,) * 100, 200)[3:], (
            ("release", (1,), 27), ("release", (0,), 21), ("release", (), 1)))

    def test_a_run_that_is_cut_off(self):
        program = self.accepted(EXAMPLE)
        whole = trace_memory(program, (5,), (1, 0), 200)
        seen = set()
        for limit in range(60):
            events = trace_memory(program, (5,), (1, 0), limit)
            self.assertEqual(events, whole[:len(events)])
            seen.add(len(events))
        self.assertEqual(seen, set(range(1, 7)))


class TestOneMemory(PromiseCase):
    def test_a_thread_changes_what_its_parent_has(self):
        change = ("change", (("r", ("exclusive", of("Pair"))),), UNIT, (), (
            store(at("r", "^"), ("record", "Pair", (num(8), ("box", num(9))))),))
        program = self.accepted(((PAIR,), (change, main(
            let("p", ("tuple", (num(1), ("record", "Pair", (num(2), ("box", num(3)))), num(4)))),
            do(join(spawn("change", seize("p", 1)))), show(use("p", 0)), show(use("p", 1, "a")),
            show(use("p", 1, "b", "^")), show(use("p", 2))))))
        self.assertEqual(self.keep(program)[0][2], (1, 8, 9, 4))
        for schedule in ((0,), (1,), (0, 1)):
            self.assertEqual(run_memory(program, (), schedule, 200), meaning(program, (), 200))

    def test_a_frame_that_is_used_again_begins_with_zeros(self):
        fill = ("fill", (), INT, (), (let("m", ("some", ("tuple", (num(5), num(6))))), give(num(7))))
        look = ("look", (), items(maybe(items(INT, INT)), INT), (),
            (give(("tuple", (("none", items(INT, INT)), num(1)))),))
        program = self.accepted(((), (fill, look, main(
            do(call("fill")), give(call("look")), result=items(maybe(items(INT, INT)), INT)))))
        self.assertEqual(self.keep(program)[0][1], ("returned", ("tuple", (("none",), num(1)))))


class TestRefused(unittest.TestCase):
    def test_programs_that_are_not_accepted(self):
        programs = (
            ((), (main(let("x", ("box", num(1))), do(use("x")), do(use("x"))),)),
            ((), (main(), ("bad", (("p", SHARED),), SHARED, (), (give(use("p")),)))),
            ((), (ADD, main(let("n", num(1)), let("t", spawn("add", seize("n"), num(1))), show(use("n"))))),
            ((), (main(), ("bad", (("e", EXCLUSIVE),), EXCLUSIVE, ("e",), (
                ("while", TRUE, (do(use("e")),)), give(use("e")))))))
        for program in programs:
            self.assertIsNone(check_kinds(program))
            for function in (run_memory, trace_memory):
                before = copy.deepcopy(program)
                for limit in (0, 20):
                    with self.assertRaises(ForkError) as caught:
                        function(program, (), (0,), limit)
                    self.assertIs(type(caught.exception), Refused)
                self.assertEqual(program, before)


if __name__ == "__main__":
    unittest.main()
