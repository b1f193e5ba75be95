"""Programs with many stories, because they look at much of their inputs (points 35 to 41, 46 and 53 to 56)."""

import itertools
import unittest

from helpers import FIFTH, GUARDED, READ, Checks
from oracle import chance_of, facts_key, normal_facts, plain_choices, reached_pairs, run_model
from thawedwrites.alike import ends_alike
from thawedwrites.depths import is_safe, least_depths, needless
from thawedwrites.desk import Desk
from thawedwrites.errors import LimitExceeded
from thawedwrites.heaps import Heap
from thawedwrites.most import most_heap, most_made
from thawedwrites.programs import Program
from thawedwrites.reaches import hollows, is_listed, never, refusals, witness
from thawedwrites.stories import stories, story_of

COPIES = [("copy", "d", "a", "thaw", 1), ("copy", "e", "b", "freeze", 1), ("copy", "d", "d", "thaw", 1)]


def guarded(rows):
    return Program(["a", "b", "c"], ["f", "g"], rows)


FOUR_LOOKS = guarded(GUARDED + READ)
FIVE_LOOKS = guarded(GUARDED + [FIFTH] + READ)


def plain_facts(program, most=2001):
    """The keys of the facts of the first stories, in order."""
    return [normal_facts(program.fields, names, starts)
            for names, starts in itertools.islice(plain_choices(program), most)]


def is_near(facts, start, goal, depth):
    """True if the goal can be at most so many fields away from the start on a heap that fits the facts.

    An open field may hold any object, also one that is not told (here "new"), whose fields are open.
    """
    every = list(range(len(facts))) + ["new"]
    edges = facts.edges()
    near = [start]
    for _ in range(depth):
        for pair in itertools.product(list(near), facts.fields):
            near.extend([edges[pair]] if pair in edges else every)
        near = list(set(near) - {None})
    return goal in near


class FourLooksTest(Checks, unittest.TestCase):
    def test_there_are_1251_stories(self):
        self.assertEqual(len(stories(FOUR_LOOKS)), 1251)
        self.assertIs(never(FOUR_LOOKS), False)
        desk = Desk(FOUR_LOOKS)
        self.assertEqual(desk.stories(), stories(FOUR_LOOKS))
        self.assertIs(desk.never(), False)

    def test_their_order(self):
        self.assertEqual([facts_key(story[0]) for story in stories(FOUR_LOOKS)], plain_facts(FOUR_LOOKS))

    def test_each_of_them(self):
        pair = ((5,), "r")
        for facts, word, place, sure, can in stories(FOUR_LOOKS):
            heap = facts.heap()
            model, end = run_model(FOUR_LOOKS, heap)
            self.assertEqual((word, place), end)
            self.assertEqual(sure, reached_pairs(model))
            names = facts.names()
            reaching = None not in (names["a"], names["b"]) and is_near(facts, names["a"], names["b"], 2)
            self.assertEqual(can, [pair] if reaching else [])
            self.assertEqual(story_of(FOUR_LOOKS, heap), (facts, word, place, sure, can))

    def test_questions_about_them(self):
        told = stories(FOUR_LOOKS)
        self.assertIs(is_listed(FOUR_LOOKS, told[::-1]), True)
        self.assertIs(is_listed(FOUR_LOOKS, told[1:]), False)
        self.assertEqual([refusals(FOUR_LOOKS), hollows(FOUR_LOOKS)], [[], [(5,)]])
        heap = witness(FOUR_LOOKS, (5,), "r")
        self.assertEqual(story_of(FOUR_LOOKS, heap)[4], [((5,), "r")])
        self.assertIn(heap["b"], heap.parts("a", 2))

    def test_three_copies_ahead(self):
        program = guarded(COPIES + GUARDED + READ)
        self.assertEqual(len(stories(program)), 1251)
        self.assertEqual(least_depths(program), [])
        # The reader looks at a copy, and nothing that it holds is shared if both copies go deep enough.
        apart = guarded(COPIES + GUARDED + [("watch", "r", "d", 1), ("put", "b", "f", "c")])
        self.assertEqual(least_depths(apart), [(0, 0, 2), (2, 0, 0)])
        self.assertIs(is_safe(apart, (1, 2, 1)), False)


class FiveLooksTest(Checks, unittest.TestCase):
    def test_there_are_more_than_2000_stories(self):
        self.assertEqual(len(plain_facts(FIVE_LOOKS)), 2001)
        self.assert_limit(2000, stories, FIVE_LOOKS)
        self.assert_limit(2000, never, FIVE_LOOKS)
        self.assert_limit(2000, Desk, FIVE_LOOKS)

    def test_wherever_the_fifth_stands(self):
        rows = GUARDED + READ
        for at in range(len(rows) + 1):
            self.assert_limit(2000, stories, guarded(rows[:at] + [FIFTH] + rows[at:]))
            self.assert_limit(2000, never, guarded(rows[:at] + [FIFTH] + rows[at:]))

    def test_each_question_has_the_limit(self):
        for function in (refusals, hollows, needless, least_depths, most_made, most_heap):
            self.assert_limit(2000, function, FIVE_LOOKS)
        self.assert_limit(2000, witness, FIVE_LOOKS, (6,), "r")
        self.assert_limit(2000, is_listed, FIVE_LOOKS, None)
        self.assert_limit(2000, is_safe, FIVE_LOOKS, [])
        self.assert_limit(2000, ends_alike, FIVE_LOOKS, FOUR_LOOKS)
        self.assert_limit(2000, ends_alike, FOUR_LOOKS, FIVE_LOOKS)
        self.assert_limit(2000, least_depths, guarded(COPIES + GUARDED + [FIFTH] + READ))

    def test_one_story_has_no_limit(self):
        heap = Heap(["f", "g"], [{"f": 1, "g": None}, {"f": None, "g": 0}], {"a": 0, "b": 1, "c": None})
        _, *rest = story_of(FIVE_LOOKS, heap)
        self.assertEqual(rest, ["done", None, [((6,), "r")], [((6,), "r")]])

    def test_a_desk_does_not_take_the_fifth(self):
        desk = Desk(FOUR_LOOKS)
        desk.delete((5,))
        desk.undo()
        for change in (lambda: desk.insert((4,), FIFTH), lambda: desk.__setitem__((4,), FIFTH)):
            self.assert_limit(2000, change)
            self.assertEqual(desk.current(), FOUR_LOOKS)
            self.assertEqual(desk.turns(), [(1, True), (2, False)])
            self.assertIs(desk.never(), False)
        self.assertIs(desk.redo(), True)
        self.assertEqual(desk.current(), guarded(GUARDED + READ[:1]))
        self.assertIs(desk.never(), True)
        self.assertEqual(len(desk.stories()), 1251)


def drawn_look(chance, inputs, fields):
    name = chance.choice(inputs)
    return ("empty", name, [], [("look", chance.choice("vw"), name, chance.choice(fields))])


def drawn_program(chance, least, most):
    """A program with so many guarded looks, a watch row and a put row."""
    inputs = chance.choice([["a"], ["b", "a"], ["a", "b", "c"], ["c", "a", "b"]])
    fields = chance.choice([["f"], ["f", "g"], ["g", "f"]])
    rows = [drawn_look(chance, inputs, fields) for _ in range(chance.randint(least, most))]
    rows.append(("watch", "r", chance.choice(inputs), chance.randint(0, 4)))
    rows.append(("put", chance.choice(inputs + ["v"]), chance.choice(fields), chance.choice(inputs)))
    return Program(inputs, fields, rows)


class DrawnTest(Checks, unittest.TestCase):
    def test_the_stories_of_drawn_programs(self):
        counts = []
        for seed in range(60):
            program = drawn_program(chance_of(seed), 2, 6)
            try:
                told = stories(program)
            except LimitExceeded:
                counts.append(2001)
                self.assertEqual(len(plain_facts(program)), 2001)
                self.assert_limit(2000, never, program)
                continue
            counts.append(len(told))
            if len(told) <= 300:
                self.assertEqual([facts_key(story[0]) for story in told], plain_facts(program))
            self.assertIs(never(program), all(can == [] for _, _, _, _, can in told))
            for facts, word, place, sure, can in told[::20]:
                model, end = run_model(program, facts.heap())
                self.assertEqual((word, place, sure), end + (reached_pairs(model),))
                self.assertLessEqual(set(sure), set(can))
        self.assertIn(2001, counts)
        self.assertGreater(len([count for count in counts if count > 300]), 5)

    def test_drawn_desks(self):
        for seed in range(30):
            chance = chance_of(seed)
            first = drawn_program(chance, 1, 3)
            desk = Desk(first)
            for _ in range(chance.randint(1, 6)):
                self.change(chance, desk)
                self.assertEqual(desk.stories(), stories(desk.current()))
                self.assertIs(desk.never(), never(desk.current()))

    def change(self, chance, desk):
        """Does a deed if it is not refused because of the limit."""
        program = desk.current()
        row = drawn_look(chance, program.inputs, program.fields)
        at = chance.randrange(len(program.rows()) + 1)
        word = chance.choice(["insert", "insert", "delete", "undo", "redo"])
        try:
            if word == "insert":
                desk.insert((at,), row)
                self.assertEqual(desk[(at,)], row)
            elif word == "delete" and at < len(program.rows()):
                self.assertEqual(desk.delete((at,)), program.row((at,)))
            elif word == "undo":
                desk.undo()
            else:
                desk.redo()
        except LimitExceeded:
            self.assertEqual(desk.current(), program)


if __name__ == "__main__":
    unittest.main()
