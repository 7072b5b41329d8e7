"""Promise 55: places of the bits of a row of signs."""

import itertools
import random
import unittest

from tests.coders import comb, nodes_told, random_code, read_plainly
from tests.helpers import NO_INTEGERS, raised, rows_up_to
from wordvault.codes import Code
from wordvault.machines import Machine
from wordvault.plainbits import ends_sure, plain_search, stop_search


def numbers(bits):
    return [int(bit) for bit in bits]


def places_in(bits, word):
    return [place for place in range(len(bits) - len(word) + 1) if bits[place:place + len(word)] == word]


class PlainBitsTest(unittest.TestCase):
    def some(self, seed, many):
        rng = random.Random(seed)
        for _ in range(many):
            code = random_code(rng, rng.randint(2, 5))
            yield rng, code, [rng.randrange(code.size) for _ in range(rng.randint(1, 4))]

    def test_plain_search(self):
        for rng, code, row in self.some(121, 60):
            word = "".join(code.words[sign] for sign in row)
            searcher = plain_search(code, row)
            self.assertEqual((searcher.start, searcher.marks, len(searcher.rows)), (0, (len(word),), len(word) + 1))
            for size in range(9):
                for bits in itertools.product("01", repeat=min(size, 7)):
                    told = "".join(bits) + word[:max(0, size - 7)]
                    ends = [place + len(word) - 1 for place in places_in(told, word)]
                    self.assertEqual(list(searcher.marked_in(numbers(told))), ends)
            for _ in range(5):
                told = "".join(rng.choice([word, "0", "1"]) for _ in range(20))
                ends = [place + len(word) - 1 for place in places_in(told, word)]
                self.assertEqual(list(searcher.marked_in(numbers(told))), ends)
                longest = max(size for size in range(len(word) + 1) if told.endswith(word[:size]))
                self.assertEqual(searcher.state_behind(0, numbers(told)), longest)

    def test_true_and_false_places(self):
        for rng, code, row in self.some(122, 40):
            word = "".join(code.words[sign] for sign in row)
            true, false = stop_search(code, row, "true"), stop_search(code, row, "false")
            rows = list(rows_up_to(code.size, 4)) + [[rng.randrange(code.size) for _ in range(rng.randint(5, 20))] for _ in range(40)]
            for text in rows:
                bits = "".join(code.words[sign] for sign in text)
                begins = [len("".join(code.words[sign] for sign in text[:at])) for at in range(len(text))]
                places = places_in(bits, word)
                self.assertEqual(list(true.marked_in(numbers(bits))),
                                 [place + len(word) - 1 for place in places if place in begins])
                self.assertEqual(list(false.marked_in(numbers(bits))),
                                 [place + len(word) - 1 for place in places if place not in begins])

    def test_states_in_their_order(self):
        for _, code, row in self.some(123, 30):
            word = "".join(code.words[sign] for sign in row)
            order, rows = [(0, "")], []
            for size, node in order:
                told = []
                for bit in "01":
                    read = word[:size] + bit
                    behind = max(at for at in range(len(word) + 1) if read.endswith(word[:at]) and at <= len(read))
                    pair = (behind, read_plainly(code, node, read[:len(read) - behind])[1])
                    if pair not in order:
                        order.append(pair)
                    told.append(order.index(pair))
                rows.append((told[0], [(1, 1, told[1])]))
            for kind in ("true", "false"):
                marks = [at for at, (size, node) in enumerate(order)
                         if size == len(word) and (node == "") == (kind == "true")]
                self.assertEqual(stop_search(code, row, kind), Machine(2, rows, 0, marks))

    def test_ends_sure(self):
        for _, code, row in self.some(124, 100):
            word = "".join(code.words[sign] for sign in row)
            wished = [node for node in nodes_told(code) if node and read_plainly(code, node, word)[1] == ""]
            self.assertEqual(ends_sure(code, row), tuple(wished))
        self.assertEqual(ends_sure(Code([2, 2, 2, 2]), [1, 3]), ())

    def test_errors_in_order(self):
        code = Code([1, 2, 3, 4, 5, 6, 7, 8, 9, 10, 11, 11])
        calls = [plain_search, ends_sure, lambda code, row: stop_search(code, row, "x")]
        for call in calls:
            for many in (0, 21):
                self.assertEqual(raised(call, code, ["x"] * many), ("TooMany", "signs", many, 20))
            for value in NO_INTEGERS + [-1, 12]:
                self.assertEqual(raised(call, code, [11, value] + [11] * 18), ("BadSign", 1))
            self.assertEqual(raised(call, code, [11] * 19), ("TooMany", "bits", 209, 200))
        self.assertEqual(len(plain_search(code, [9] * 20).rows), 201)
        self.assertEqual(raised(plain_search, code, [9] * 19 + [10]), ("TooMany", "bits", 201, 200))
        for value in NO_INTEGERS + [0, "True", "tru", ("true",)]:
            self.assertEqual(raised(stop_search, code, [0], value), ("BadKind", value))
        great = comb(2000)
        self.assertEqual(raised(stop_search, great, [1], "true"), ("TooMany", "states", 2001, 2000))
        self.assertEqual(len(stop_search(comb(1000), [0], "false").rows), 1998)


if __name__ == "__main__":
    unittest.main()
