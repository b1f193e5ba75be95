"""Random programs, rows and facts, with fixed seeds, beside a second way to find the answers."""

import itertools
import unittest

from oracle import all_heaps, chance_of, model_of, random_heap_parts, random_plain_row, random_rows
from thawedwrites.errors import Hollow, Refused, RunError
from thawedwrites.facts import Facts
from thawedwrites.heaps import Heap
from thawedwrites.live import Live
from thawedwrites.programs import Program
from thawedwrites.runs import Run

WORDS = {Hollow: "hollow", Refused: "refused"}


def fits_somehow(heap, fields, names, edges):
    """True if some choice of unlike objects for the labels makes all that is told so."""
    labels = sorted({one for one in [*names.values(), *edges.values(), *(key[0] for key in edges)] if one is not None})
    objects = heap.objects()
    if heap.fields != tuple(fields) or set(heap.names()) != set(names):
        return False
    for chosen in itertools.permutations(range(len(objects)), len(labels)):
        at = dict(zip(labels, chosen))
        at[None] = None
        if all(heap[name] == at[label] for name, label in names.items()) and \
                all(objects[at[label]][field] == at[held] for (label, field), held in edges.items()):
            return True
    return False


def random_facts(chance, fields, names, labels, share):
    """What Facts takes, with only reached labels."""
    told = {name: chance.choice(labels + [None]) for name in names}
    edges = {}
    ahead = [label for label in told.values() if label is not None]
    seen = []
    while ahead:
        label = ahead.pop(0)
        if label not in seen:
            seen.append(label)
            for field in fields:
                if chance.random() < share:
                    edges[(label, field)] = chance.choice(labels + [None])
                    if edges[(label, field)] is not None:
                        ahead.append(edges[(label, field)])
    return told, edges


class RandomTest(unittest.TestCase):
    def test_runs(self):
        words = {"done": 0, "hollow": 0, "refused": 0}
        pairs = looks = 0
        for seed in range(6000):
            chance = chance_of(seed)
            fields = chance.choice([["f"], ["f", "g"], ["g", "f"]])
            inputs = ["a", "b", "c"][:chance.choice([1, 2, 3, 3])]
            rows = random_rows(chance, fields, "abcde"[:len(inputs) + chance.randint(0, 2)], chance.randint(0, 20))
            program = Program(inputs, fields, rows)
            objects, names = random_heap_parts(chance, fields, inputs, 6)
            heap = Heap(fields, objects, names)
            run, model = Run(program, heap), model_of(heap)
            self.assertEqual(run.end(), model.run(rows), seed)
            self.assertEqual(run.reached(), sorted(model.reached), seed)
            self.assertEqual((run.made(), run.looks()), (model.made, model.looks), seed)
            for name in "abcdef":
                self.assertEqual(run.value(name), model.value(name), seed)
            behind = run.behind()
            self.assertEqual((behind.objects(), behind.names()), model.behind(program.variables()), seed)
            self.assertEqual(behind.fields, tuple(fields))
            words[run.end()[0]] += 1
            pairs += len(run.reached())
            looks += len(run.looks())
        self.assertTrue(min(words.values()) > 100 and pairs > 500 and looks > 500, (words, pairs, looks))

    def assert_alike(self, live, model, seed):
        for name in "abcde":
            self.assertEqual(live.value(name), model.value(name), seed)
        self.assertEqual((live.made(), live.reached()), (model.made, sorted(model.reached)), seed)
        objects, names = model.behind("abcde")
        if len(objects) <= 200:
            behind = live.behind(list("abcde"))
            self.assertEqual((behind.objects(), behind.names()), (objects, names), seed)

    def test_live(self):
        told = {"done": 0, "hollow": 0, "refused": 0}
        for seed in range(400):
            chance = chance_of(seed)
            fields = chance.choice([["f"], ["f", "g"], ["g", "f"]])
            objects, names = random_heap_parts(chance, fields, "ab", 4)
            heap = Heap(fields, objects, names)
            live, model = Live(heap), model_of(heap)
            readers = ["r" + one + other for one in "abcdefghij" for other in "abcdefghijklmnopqrstuvwxyz"]
            for _ in range(20):
                rows = [random_plain_row(chance, fields, "abcde", readers.pop()) for _ in range(chance.randint(0, 9))]
                after, word, index = model.attempt(rows)
                told[word] += 1
                if chance.random() < 0.5:
                    self.assertEqual(live.trial(rows), (word, index, sorted(after.reached)), seed)
                elif word == "done":
                    self.assertEqual(live.attempt(rows), len(rows), seed)
                    model = after
                else:
                    row = rows[index]
                    with self.assertRaises(RunError) as caught:
                        live.attempt(rows)
                    self.assertEqual(WORDS[type(caught.exception)], word)
                    self.assertEqual(caught.exception.name, row[2] if row[0] == "look" else row[1])
                self.assert_alike(live, model, seed)
        self.assertGreater(min(told.values()), 100, told)

    def test_heaps_in_facts(self):
        for fields, most in [(["f"], 3), (["f", "g"], 2)]:
            heaps = list(all_heaps(fields, "ab", most))
            count = [0, 0]
            for seed in range(40):
                names, edges = random_facts(chance_of(seed), fields, "ab", [1, 5, 9], 0.4)
                facts = Facts(fields, names, edges)
                for heap in heaps:
                    answer = heap in facts
                    self.assertIs(answer, fits_somehow(heap, fields, names, edges), (seed, heap.objects()))
                    count[answer] += 1
            self.assertGreater(min(count), 200)

    def test_facts_in_facts(self):
        for fields, most in [(["f"], 3), (["f", "g"], 2)]:
            heaps = list(all_heaps(fields, "ab", most))
            labels = [0, 1, 2][:most]
            told = [random_facts(chance_of(seed), fields, "ab", labels, 0.5) for seed in range(60)]
            facts = [Facts(fields, names, edges) for names, edges in told]
            inside = [[heap in one for heap in heaps] for one in facts]
            count = [0, 0]
            for one, ones in zip(facts, inside):
                for other, others in zip(facts, inside):
                    answer = other in one
                    self.assertIs(answer, all(mine for mine, theirs in zip(ones, others) if theirs))
                    count[answer] += 1
            self.assertGreater(min(count), 100)


if __name__ == "__main__":
    unittest.main()
