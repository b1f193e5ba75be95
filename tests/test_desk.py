"""Desks (points 53 to 56)."""

import unittest

from helpers import ALL, ROWS_2000, ROWS_2001, Checks, chain, is_number, three_inputs
from oracle import chance_of, lively_program, random_plain_row
from thawedwrites.desk import Desk
from thawedwrites.errors import InvalidProgram, LimitExceeded, ThawError
from thawedwrites.heaps import Heap
from thawedwrites.programs import Program
from thawedwrites.reaches import never
from thawedwrites.stories import stories, story_of

INNER = [("same", "x", "y", [("new", "a"), ("new", "b")], []), ("none", "x")]
ROWS = [("new", "y"), ("empty", "x", INNER, [("empty", "y", [], [("move", "y", "x")])])]
PLACES = [(0,), (1,), (1, 0, 0), (1, 0, 0, 0, 0), (1, 0, 0, 0, 1), (1, 0, 1), (1, 1, 0), (1, 1, 0, 1, 0)]
BEHIND = [(2,), (1, 0, 2), (1, 1, 1), (1, 0, 0, 0, 2), (1, 0, 0, 1, 0), (1, 1, 0, 0, 0), (1, 1, 0, 1, 1)]
NO_PLACES = [(), (3,), (-1,), (0, 0), (0, 0, 0), (1, 0), (1, 0, 3), (1, 2, 0), (1, -1, 0), (1, 0, -1), (1, 0, 1, 0, 0),
             (1, 0, 0, 2, 0), (1, 1, 0, 1, 2), (1, 1, 1, 0, 0), [0], 0, "0", (True,), (False,), (0.0,), (None,), ("x",),
             (1, False, 0), (1, True, 0), (1, 0, True), ((0,),), ([0],), {0: 0}, (1, 0, 0, 0, 0, 0, 0, 0, 0)]
# With the put row, the write can reach the reader.
WATCH, PUT = ("watch", "r", "x", 1), ("put", "y", "f", "x")
STOP = ("put", "n", "f", "n")


def program(rows, outputs=("y",)):
    return Program(["x"], ["f"], rows, outputs=outputs)


def alias(rows):
    return Program(["x", "y"], ["f"], rows)


class DeskTest(Checks, unittest.TestCase):
    def assert_rows(self, desk, rows):
        self.assertEqual(desk.current(), program(rows))

    def test_the_example_of_the_interface(self):
        desk = Desk(Program(["x", "y"], ["f"], [("watch", "r", "x", 1)]))
        desk.insert((1,), ("put", "y", "f", "x"))
        self.assertEqual([desk.never(), desk.undo(), desk.never(), desk.undo(), desk.turns()],
                         [False, True, True, False, [(1, False), (2, True)]])

    def test_what_a_desk_holds(self):
        for rows in [[], [WATCH], [WATCH, PUT], [PUT, WATCH]]:
            desk = Desk(alias(rows))
            self.assertIs(type(desk.current()), Program)
            self.assertEqual(desk.current(), alias(rows))
            self.assertEqual(desk.stories(), stories(alias(rows)))
            self.assertIs(desk.never(), never(alias(rows)))
            self.assertEqual(desk.turns(), [])

    def test_the_story_of_a_heap(self):
        desk = Desk(alias([WATCH]))
        heap = Heap(["f"], chain(2), {"x": 0, "y": 1})
        self.assertEqual(desk(heap), story_of(alias([WATCH]), heap))
        desk.insert((1,), PUT)
        self.assertEqual(desk(heap), story_of(alias([WATCH, PUT]), heap))
        self.assertEqual(desk(heap)[4], [((1,), "r")])
        for value in [Heap(["f"], chain(2), {"x": 0}), Heap(["g"], [], {"x": None, "y": None}),
                      Heap(["f"], chain(101), {"x": 0, "y": 1})] + ALL:
            self.assert_argument_error("heap", desk, value)

    def test_a_desk_is_not_iterated_over(self):
        with self.assertRaises(TypeError):
            iter(Desk(program(ROWS)))

    def test_rows_at_places(self):
        desk = Desk(program(ROWS))
        self.assertEqual(desk.current().places(), PLACES)
        for place in PLACES:
            self.assertEqual(desk[place], program(ROWS).row(place))
        for place in BEHIND + NO_PLACES + ALL:
            self.assert_argument_error("place", desk.__getitem__, place)

    def test_assignments(self):
        desk = Desk(program(ROWS))
        desk[0,] = ("none", "y")
        desk[(1, 0, 0, 0, 1)] = ("move", "b", "a")
        desk[(1, 1, 0)] = ("new", "x")
        self.assert_rows(desk, [("none", "y"), ("empty", "x", [
            ("same", "x", "y", [("new", "a"), ("move", "b", "a")], []), ("none", "x")], [("new", "x")])])
        # The rows inside the old row go with it.
        desk[(1,)] = ("same", "x", "x", [], [])
        self.assert_rows(desk, [("none", "y"), ("same", "x", "x", [], [])])
        desk[(1,)] = ROWS[1]
        self.assert_rows(desk, [("none", "y"), ROWS[1]])

    def test_each_place_is_assigned(self):
        for place in PLACES:
            desk = Desk(program(ROWS))
            for row in [("new", "c"), ("empty", "c", [], [])]:
                desk[place] = row
                self.assertEqual(desk[place], row)
                left = [other for other in PLACES if other[:len(place)] != place]
                self.assertEqual(desk.current().places(), sorted(left + [place]))
                for other in left:
                    if place[:len(other)] != other:
                        self.assertEqual(desk[other], program(ROWS).row(other))

    def test_inserts(self):
        desk = Desk(program([]))
        self.assertIs(desk.insert((0,), ("new", "a")), None)
        desk.insert((0,), ("empty", "x", [], []))
        desk.insert((2,), ("none", "a"))
        desk.insert((0, 0, 0), ("new", "b"))
        desk.insert((0, 1, 0), ("same", "a", "b", [], []))
        desk.insert((0, 1, 0, 1, 0), ("none", "b"))
        desk.insert((0, 0, 1), ("none", "x"))
        desk.insert((0, 0, 0), ("move", "b", "a"))
        self.assert_rows(desk, [
            ("empty", "x", [("move", "b", "a"), ("new", "b"), ("none", "x")], [("same", "a", "b", [], [("none",
                                                                                                        "b")])]),
            ("new", "a"), ("none", "a")])
        self.assert_argument_error("place", Desk(program([])).insert, (1,), ("new", "a"))

    def test_an_insert_at_each_place(self):
        for place in PLACES + BEHIND:
            desk = Desk(program(ROWS))
            self.assertIs(desk.insert(place, ("move", "c", "c")), None)
            self.assertEqual(desk[place], ("move", "c", "c"))
            self.assertEqual(len(desk.current().places()), len(PLACES) + 1)
            if place in PLACES:
                self.assertEqual(desk[place[:-1] + (place[-1] + 1,)], program(ROWS).row(place))
            self.assertEqual(desk.delete(place), ("move", "c", "c"))
            self.assert_rows(desk, ROWS)

    def test_deletes(self):
        desk = Desk(program(ROWS))
        self.assertEqual(desk.delete((1, 0, 0, 0, 0)), ("new", "a"))
        self.assertEqual(desk.delete((1, 0, 1)), ("none", "x"))
        self.assert_rows(desk, [("new", "y"), ("empty", "x", [("same", "x", "y", [("new", "b")], [])], ROWS[1][3])])
        self.assertEqual(desk.delete((1, 1, 0)), ROWS[1][3][0])
        self.assertEqual(desk.delete((1,)), ("empty", "x", [("same", "x", "y", [("new", "b")], [])], []))
        self.assertEqual(desk.delete((0,)), ("new", "y"))
        self.assert_rows(desk, [])
        self.assert_argument_error("place", desk.delete, (0,))

    def test_a_delete_at_each_place(self):
        for place in PLACES:
            desk = Desk(program(ROWS))
            row = desk.delete(place)
            self.assertEqual(row, program(ROWS).row(place))
            desk.insert(place, row)
            self.assert_rows(desk, ROWS)
            inside = len([other for other in PLACES if other[:len(place)] == place])
            desk.delete(place)
            self.assertEqual(len(desk.current().places()), len(PLACES) - inside)

    def test_inputs_fields_and_outputs_stay(self):
        whole = Program(["y", "x"], ["g", "f"], [("look", "x", "y", "g")], outputs=["z", "x"])
        desk = Desk(whole)
        desk[(0,)] = ("look", "x", "y", "f")
        desk.insert((1,), ("new", "a"))
        desk.delete((0,))
        self.assertEqual(desk.current(), Program(["y", "x"], ["g", "f"], [("new", "a")], outputs=["z", "x"]))

    def test_undo_and_redo(self):
        desk = Desk(program([]))
        self.assertIs(desk.undo(), False)
        self.assertIs(desk.redo(), False)
        lists = [[]]
        for name in "abc":
            desk.insert((0,), ("new", name))
            lists.append([("new", name)] + lists[-1])
        desk[(1,)] = ("none", "a")
        lists.append([lists[-1][0], ("none", "a"), lists[-1][2]])
        desk.delete((0,))
        lists.append(lists[-1][1:])
        for _ in range(2):
            self.assertIs(desk.redo(), False)
            for rows in lists[-2::-1]:
                self.assertIs(desk.undo(), True)
                self.assert_rows(desk, rows)
            self.assertIs(desk.undo(), False)
            self.assert_rows(desk, [])
            for rows in lists[1:]:
                self.assertIs(desk.redo(), True)
                self.assert_rows(desk, rows)

    def test_a_change_clears_what_redo_could_make_again(self):
        for change in [lambda desk: desk.insert((0,), ("new", "c")), lambda desk: desk.delete((0,)),
                       lambda desk: desk.__setitem__((0,), ("new", "c")),
                       # Also one that puts the same row there again.
                       lambda desk: desk.__setitem__((0,), ("new", "a"))]:
            desk = Desk(program([("new", "a")]))
            desk.insert((1,), ("new", "b"))
            desk.insert((2,), ("none", "b"))
            desk.undo()
            desk.undo()
            change(desk)
            rows = desk.current().rows()
            self.assertIs(desk.redo(), False)
            self.assert_rows(desk, rows)
            self.assertIs(desk.undo(), True)
            self.assert_rows(desk, [("new", "a")])
            self.assertIs(desk.undo(), False)
            self.assertIs(desk.redo(), True)
            self.assert_rows(desk, rows)


class RefusedTest(Checks, unittest.TestCase):
    def state(self, desk):
        """All that can be seen of a desk; what undo and redo do is seen on the way back and forth."""
        seen = [desk.current().rows(), desk.never(), desk.stories()]
        back = 0
        while desk.undo():
            back += 1
            seen.append(desk.current().rows())
        for _ in range(back):
            desk.redo()
        forth = 0
        while desk.redo():
            forth += 1
            seen.append(desk.current().rows())
        for _ in range(forth):
            desk.undo()
        return seen, back, forth

    def desk(self):
        """A desk with three changes, one of which is taken back."""
        desk = Desk(program(ROWS[:1]))
        desk.insert((1,), ROWS[1])
        desk.insert((2,), ("new", "b"))
        desk.insert((3,), ("none", "b"))
        desk.undo()
        desk.undo()
        return desk

    def assert_refused(self, desk, error, call, *args):
        before = self.state(desk)
        turns = desk.turns()
        with self.assertRaises(error, msg=repr(args)) as caught:
            call(*args)
        self.assertEqual(desk.turns(), turns)
        self.assertEqual(self.state(desk), before)
        return caught.exception

    def test_wrong_places(self):
        desk = self.desk()
        self.assertEqual(desk.current().places(), PLACES)
        for place in NO_PLACES + ALL:
            # The place comes ahead of the row.
            for row in [("new", "a"), ("new",), None]:
                self.assert_argument_error("place", desk.insert, place, row)
                self.assert_argument_error("place", desk.__setitem__, place, row)
            self.assert_argument_error("place", desk.delete, place)
        for place in BEHIND:
            self.assert_argument_error("place", desk.__setitem__, place, ("new", "a"))
            self.assert_argument_error("place", desk.delete, place)
        for place in NO_PLACES[:6]:
            self.assert_refused(desk, ThawError, desk.insert, place, ("new", "a"))
            self.assert_refused(desk, ThawError, desk.__setitem__, place, ("new", "a"))
            self.assert_refused(desk, ThawError, desk.delete, place)

    def test_rows_that_make_no_program(self):
        for part, row in [("form", None), ("form", ["new", "a"]), ("form", ("new",)), ("form", ("else",)), ("form", ()),
                          ("form", ("empty", "a", [], ())), ("name", ("new", "A")), ("name", ("look", "a", "x", "g")),
                          ("name", ("copy", "a", "x", "thaw", 5)), ("name", ("copy", "a", "x", "thaw", True))]:
            for place in PLACES + BEHIND:
                desk = Desk(program(ROWS))
                error = self.assert_refused(desk, InvalidProgram, desk.insert, place, row)
                self.assertEqual((error.part, error.place), (part, place))
                if place in PLACES:
                    error = self.assert_refused(desk, InvalidProgram, desk.__setitem__, place, row)
                    self.assertEqual((error.part, error.place), (part, place))
        desk = self.desk()
        for row in ALL:
            error = self.assert_refused(desk, InvalidProgram, desk.insert, (0,), row)
            self.assertEqual((error.part, error.place), ("form", (0,)))

    def test_rows_that_are_too_deep_or_have_a_reader_twice_or_are_too_many(self):
        deep = ("empty", "x", [("empty", "x", [("empty", "x", [("empty", "x", [], [])], [])], [])], [])
        desk = Desk(program([deep, WATCH]))
        inside = (0, 0, 0, 0, 0, 0, 0)
        error = self.assert_refused(desk, InvalidProgram, desk.insert, inside + (1, 0), ("new", "a"))
        self.assertEqual((error.part, error.place), ("deep", inside + (1, 0)))
        error = self.assert_refused(desk, InvalidProgram, desk.__setitem__, (0, 0, 0), deep)
        self.assertEqual((error.part, error.place), ("deep", (0, 0, 0, 0, 0, 0, 0, 0, 0)))
        error = self.assert_refused(desk, InvalidProgram, desk.insert, (0,), WATCH)
        self.assertEqual((error.part, error.place), ("reader", (2,)))
        desk[(1,)] = WATCH
        desk = Desk(program([("new", "a")] * 20))
        error = self.assert_refused(desk, InvalidProgram, desk.insert, (20,), ("new", "a"))
        self.assertEqual((error.part, error.place), ("many", ()))
        desk[(19,)] = ("none", "a")

    def test_2000_and_2001_stories(self):
        desk = Desk(three_inputs(ROWS_2000))
        self.assertEqual((len(desk.stories()), desk.never()), (2000, True))
        self.assert_limit(2000, Desk, three_inputs(ROWS_2001))
        [row] = ROWS_2001
        error = self.assert_refused(desk, LimitExceeded, desk.__setitem__, (0,), row)
        self.assertEqual(error.limit, 2000)
        # The errors about the place and the program come first.
        self.assert_argument_error("place", desk.__setitem__, (1,), row)
        with self.assertRaises(InvalidProgram):
            desk[(0,)] = row + ([],)
        desk = Desk(three_inputs(ROWS_2001, [STOP]))
        self.assertEqual(len(desk.stories()), 15)
        self.assert_refused(desk, LimitExceeded, desk.delete, (0,))
        self.assert_refused(desk, LimitExceeded, desk.__setitem__, (0,), ("new", "a"))
        self.assertEqual(desk.delete((1,)), row)
        self.assertEqual(desk.delete((0,)), STOP)
        self.assert_refused(desk, LimitExceeded, desk.insert, (0,), row)

    def test_refused_changes_are_no_deeds(self):
        desk = Desk(alias([WATCH]))
        self.assertIs(desk.undo(), False)
        self.assertIs(desk.redo(), False)
        self.assert_argument_error("place", desk.delete, (1,))
        with self.assertRaises(InvalidProgram):
            desk.insert((1,), WATCH)
        desk.insert((1,), PUT)
        self.assertEqual(desk.turns(), [(1, False)])


class TurnsTest(Checks, unittest.TestCase):
    def test_deeds_are_counted(self):
        desk = Desk(alias([]))
        desk.insert((0,), WATCH)
        desk.insert((1,), PUT)
        self.assertEqual(desk.turns(), [(2, False)])
        desk[(1,)] = ("put", "x", "f", "y")
        desk.delete((0,))
        self.assertEqual(desk.turns(), [(2, False), (4, True)])
        self.assertEqual([desk.undo(), desk.undo(), desk.undo(), desk.undo(), desk.undo()], [True] * 4 + [False])
        self.assertEqual(desk.turns(), [(2, False), (4, True), (5, False), (7, True)])
        self.assertEqual([desk.redo() for _ in range(5)], [True] * 4 + [False])
        self.assertEqual(desk.turns(), [(2, False), (4, True), (5, False), (7, True), (10, False), (12, True)])
        desk.insert((0,), WATCH)
        self.assertEqual(desk.turns()[6:], [(13, False)])

    def test_a_desk_that_begins_with_a_pair(self):
        desk = Desk(alias([WATCH, PUT]))
        self.assertEqual(desk.turns(), [])
        desk.insert((0,), ("new", "a"))
        self.assertEqual(desk.turns(), [])
        desk.delete((2,))
        self.assertEqual(desk.turns(), [(2, True)])

    def test_kinds(self):
        desk = Desk(alias([WATCH]))
        desk.insert((1,), PUT)
        told = desk.turns()
        self.assertIs(type(told), list)
        [(deed, answer)] = told
        self.assertIs(type(told[0]), tuple)
        self.assertTrue(is_number(deed, 1, 1))
        self.assertIs(answer, False)
        told.append("x")
        self.assertEqual(desk.turns(), [(1, False)])


class ApartTest(unittest.TestCase):
    def test_the_program_of_the_constructor_stays(self):
        before = program(ROWS)
        desk = Desk(before)
        desk.delete((1,))
        self.assertEqual(before, program(ROWS))
        self.assertIsNot(desk.current(), before)

    def test_rows_passed_in_are_apart(self):
        for change in [lambda desk, row: desk.insert((0,), row), lambda desk, row: desk.__setitem__((0,), row)]:
            desk = Desk(program([("new", "a")]))
            inner = [("new", "b")]
            row = ("empty", "x", [("empty", "a", inner, [])], [])
            change(desk, row)
            rows = desk.current().rows()
            inner.append(("new", "c"))
            row[2].clear()
            row[3].append(("new", "c"))
            self.assertEqual(desk.current().rows(), rows)
            self.assertEqual(desk[(0,)], ("empty", "x", [("empty", "a", [("new", "b")], [])], []))

    def test_rows_given_back_are_apart(self):
        desk = Desk(program(ROWS))
        desk[(1,)][2].clear()
        desk[(1,)][3][0][3].clear()
        desk.current().rows()[1][2].clear()
        self.assertEqual(desk.current(), program(ROWS))
        row = desk.delete((1,))
        row[2].clear()
        row[3][0][3].append(("new", "c"))
        desk.undo()
        self.assertEqual(desk.current(), program(ROWS))

    def test_stories_given_back_are_apart(self):
        desk = Desk(alias([WATCH, PUT]))
        for story in desk.stories():
            story[3].clear()
            story[4].clear()
        desk.stories().clear()
        self.assertEqual(desk.stories(), stories(alias([WATCH, PUT])))

    def test_two_desks_are_apart(self):
        one = Desk(program(ROWS))
        other = Desk(one.current())
        one.delete((0,))
        self.assertEqual(other.current(), program(ROWS))
        self.assertIs(other.undo(), False)


class RandomDeskTest(unittest.TestCase):
    """Random deeds beside a list of programs."""

    def test_random_deeds(self):
        for seed in range(40):
            self.check(chance_of(seed))

    def check(self, chance):
        first = lively_program(chance)
        desk = Desk(first)
        back, forth, deeds, turns = [first], [], 0, []
        for _ in range(30):
            before = never(back[-1])
            word = chance.choice(["set", "insert", "insert", "delete", "undo", "undo", "redo"])
            if word == "undo":
                done = len(back) > 1
                self.assertIs(desk.undo(), done)
                if done:
                    forth.append(back.pop())
            elif word == "redo":
                done = len(forth) > 0
                self.assertIs(desk.redo(), done)
                if done:
                    back.append(forth.pop())
            else:
                changed = self.changed(chance, desk, back[-1], word)
                done = changed is not None
                if done:
                    back.append(changed)
                    forth = []
            self.assertEqual(desk.current(), back[-1])
            self.assertIs(desk.never(), never(back[-1]))
            deeds += done
            if done and never(back[-1]) != before:
                turns.append((deeds, never(back[-1])))
            self.assertEqual(desk.turns(), turns)

    def changed(self, chance, desk, program_before, word):
        """Does a change at the top of the program; returns the changed program, or None if it is refused."""
        rows = program_before.rows()
        at = chance.randrange(len(rows) + 1)
        row = random_plain_row(chance, ["f"], ["x", "y", "n", "c"], chance.choice("rst"))
        changed = rows[:at] + ([row] if word != "delete" else []) + rows[at + (word != "insert"):]
        try:
            whole = Program(["x", "y"], ["f"], changed) if at < len(rows) or word == "insert" else None
        except InvalidProgram:
            whole = None
        try:
            if word == "set":
                desk[(at,)] = row
            elif word == "insert":
                desk.insert((at,), row)
            else:
                self.assertEqual(desk.delete((at,)), rows[at])
        except ThawError:
            self.assertIs(whole, None)
        else:
            self.assertIsNot(whole, None)
        return whole


if __name__ == "__main__":
    unittest.main()
