"""Promises 1 and 2 over the whole program: what is told over several modules agrees."""

import random
import time
import unittest

from tests.helpers import listed
from tests.hoards import GREAT, PARITY, great_vault, random_vault
from wordvault.alike import least_machine
from wordvault.bitsearch import BitsRight, bit_search, judge_bits
from wordvault.codes import Code
from wordvault.damages import Burst
from wordvault.deeds import coded_anew, joined_vaults, put_amid, replaced, taken_from, word_put
from wordvault.dictionaries import Dictionary
from wordvault.finders import finder, wanted
from wordvault.guards import Guard, remainder
from wordvault.histories import History
from wordvault.latebits import soonest_search
from wordvault.layouts import Layout
from wordvault.levels import same
from wordvault.losses import Loses, judge_losses
from wordvault.makers import made
from wordvault.noticed import Noticed, judge_damage
from wordvault.pairs import parted_bits, parted_words
from wordvault.patterns import Pattern
from wordvault.places import Places
from wordvault.plainbits import ends_sure, plain_search, stop_search
from wordvault.plans import code_at, plan_codes
from wordvault.readers import read_sign, turned_bit
from wordvault.repairs import candidates
from wordvault.runs import Run
from wordvault.said import said
from wordvault.scripts import Script, done_script
from wordvault.sheets import number_of_sum, sums_text
from wordvault.skips import skips
from wordvault.texts import Text
from wordvault.vaults import Vault, letters_text, same_vaults, sheet_of, vault_of
from wordvault.verdicts import Right, verdict

WORDS = Dictionary("ab", ["a", "ab", "abb", "b", "ba"])


class WholeTest(unittest.TestCase):
    def test_small_vaults(self):
        rng = random.Random(231)
        for _ in range(40):
            vault, row = random_vault(rng)
            bits = "".join(vault.code.words[vault.dictionary.number_of(word)] for word in row)
            coded = vault.coded
            self.assertEqual(coded.bits_part(0, len(bits)), bits)
            self.assertEqual(listed(coded.bits_text()), [int(bit) for bit in bits])
            read = [read_sign(coded, 0, "", count) for count in range(len(row) + 1)]
            self.assertEqual(read, [(vault.dictionary.number_of(word), coded.begin_of(place + 1)) for place, word in enumerate(row)]
                             + [None])
            sheet = sheet_of(vault)
            if vault.guard.modulus ** vault.guard.size <= 2000 and vault.block <= 512:
                told = sums_text(sheet)
                self.assertEqual(listed(told), [number_of_sum(vault.guard, vault.sum_at(index)) for index in range(sheet.many)])
            self.assertEqual(letters_text(vault, blanks=False).size, len("".join(row)))

    def test_one_phrase_by_all_searches(self):
        rng = random.Random(232)
        for _ in range(40):
            vault, row = random_vault(rng, WORDS)
            numbers = [WORDS.number_of(word) for word in row]
            parts = [rng.choice([("word", rng.choice(WORDS.words)), ("begins", "a"), ("any",),
                                 ("fits", Pattern("ab", ("row", ("*", "b"))))]) for _ in range(rng.randint(1, 3))]
            phrase = said(WORDS, parts)
            places = wanted(phrase, numbers)
            found = Places(phrase, vault.text)
            self.assertEqual([found.place_at(k) for k in range(found.many)], list(places))
            for way in ("plain", "all knowledge"):
                searcher = made(phrase, way)
                self.assertIsInstance(verdict(searcher, phrase), Right)
                far = skips(searcher, vault.text)
                self.assertEqual([far.told_at(k) for k in range(far.told)], list(places))
            # The same in the bits: where the last sign of the phrase ends.
            machine = finder(phrase)
            self.assertEqual(machine, least_machine(machine))
            searcher = bit_search(vault.code, machine)
            self.assertIsInstance(judge_bits(vault.code, machine, searcher), BitsRight)
            run = Run(searcher, vault.coded.bits_text())
            self.assertEqual([run.place_at(k) for k in range(run.many)],
                             [vault.coded.begin_of(place + phrase.width) - 1 for place in places])
            self.assertEqual(Run(soonest_search(vault.code, machine), vault.coded.bits_text()).many, len(places))

    def test_plain_places_of_bits(self):
        rng = random.Random(233)
        for _ in range(40):
            vault, row = random_vault(rng, WORDS)
            signs = [rng.randrange(5) for _ in range(rng.randint(1, 3))]
            text = vault.coded.bits_text()
            true, false = (Run(stop_search(vault.code, signs, kind), text) for kind in ("true", "false"))
            every = Run(plain_search(vault.code, signs), text)
            self.assertEqual(true.many + false.many, every.many)
            numbers = [WORDS.number_of(word) for word in row]
            stands = [place for place in range(len(row) - len(signs) + 1) if numbers[place:place + len(signs)] == signs]
            self.assertEqual(true.many, len(stands))
            if not ends_sure(vault.code, signs):
                ends = {vault.coded.begin_of(index) for index in range(len(row) + 1)}
                self.assertFalse(ends & {false.place_at(k) + 1 for k in range(false.many)})

    def test_a_great_vault(self):
        began = time.time()
        code = Code([2, 2, 3, 3, 2])
        vault = great_vault(WORDS, {"A": [(["B"], GREAT), ("ba", 1), (["C"], 10 ** 20)],
                                    "B": [("a", 2), ("ab", 1)], "C": [("abb", 1), ("b", 3)]}, "A", code, remainder(4, 3), 16)
        phrase = said(WORDS, [("word", "ab"), ("begins", "a")])
        found = Places(phrase, vault.text)
        self.assertEqual((found.many, found.place_at(7), found.last_ahead(vault.size)), (GREAT - 1, 23, 3 * GREAT - 4))
        far = skips(made(phrase, "all knowledge"), vault.text)
        self.assertEqual((far.told, far.told_at(10 ** 25)), (found.many, found.place_at(10 ** 25)))
        bits = vault.coded.bits_text()
        run = Run(bit_search(code, finder(phrase)), bits)
        self.assertEqual((run.many, run.place_at(7)), (found.many, vault.coded.begin_of(25) - 1))
        sums = sums_text(sheet_of(vault))
        for index in (0, 10 ** 29, sums.size - 1):
            self.assertEqual(sums.sign_of(index), number_of_sum(vault.guard, vault.sum_at(index)))
        touched, right = turned_bit(vault.coded, 0)
        self.assertTrue(touched >= 1 and (right is None or right > 0))
        more = word_put(vault, "")
        self.assertEqual((parted_words(vault, more), more.size), (None, vault.size))
        place = parted_bits(vault, more)
        self.assertTrue(place is None or vault.coded.bit_at(place) != more.coded.bit_at(place))
        anew = coded_anew(vault)
        self.assertLessEqual(anew.coded.size, vault.coded.size)
        self.assertEqual(letters_text(vault).size, sum(count * (len(word) + 1) for count, word in zip(vault.text.tally(), WORDS.words)))
        self.assertLess(time.time() - began, 30)

    def test_scripts_deeds_and_histories(self):
        vault = vault_of("ab", ["a", "b", "a", "ba"], PARITY, 2)
        deeds = [("replace", "a", ("b", "ba")), ("put", "bb"), ("strike", "a"), ("behind", ("bb",))]
        script = Script(vault.dictionary, deeds)
        history = History(vault)
        history.do_all(deeds)
        self.assertTrue(same_vaults(history.vault, done_script(vault, script)))
        self.assertTrue(same(history.vault.text, script.made_of(vault.text)))
        told = judge_losses(script)
        self.assertIsInstance(told, Loses)
        vaults = [replaced(vault, "a", ["b", "ba"]), joined_vaults(vault, vault), taken_from(vault, 1, 2), put_amid(vault, 1, ["b"])]
        self.assertEqual([one.size for one in vaults], [6, 8, 2, 5])

    def test_a_code_along_the_history_of_a_vault(self):
        vault = vault_of("ab", ["a", "a", "b", "ba"], PARITY, 2)
        more = word_put(vault, "ab")
        plan = plan_codes([("tally", vault.text.tally()), ("put", 1)])
        self.assertEqual(code_at(plan, 1), more.code)

    def test_damage_is_noticed_and_repaired(self):
        vault = vault_of("ab", ["a", "b", "a", "ba", "ab"] * 4, remainder(6, 3), 10)
        layout = Layout(vault.code, vault.guard, 10)
        self.assertIsInstance(judge_damage(layout, Burst(6)), Noticed)
        bits = vault.coded.bits_part(0, vault.coded.size)
        sums = tuple(vault.sum_at(index) for index in range((len(bits) + 9) // 10))
        self.assertEqual(layout.sums_of(bits), sums)
        damaged = bits[:7] + ("1" if bits[7] == "0" else "0") + bits[8:]
        self.assertIn((7,), list(candidates(layout, damaged, sums, 1)))

    def test_equal_calls_return_equal_results(self):
        one = Text(2, {"A": [("B", 3), (1, 1)], "B": [(0, 2), (1, 1)]}, "A")
        other = Text(2, {"B": ((0, 2), (1, 1)), "A": (("B", 3), (1, 1))}, "A")
        self.assertEqual(one, other)
        words = Dictionary("ab", ["a", "b"])
        vaults = [Vault(words, text, Code([1, 1]), Guard(2, [[1]], [[1]], [0], [0]), 2) for text in (one, other)]
        for call in (lambda vault: vault.coded.bits_text(), letters_text, lambda vault: taken_from(vault, 1, 3).text,
                     lambda vault: sums_text(sheet_of(vault)), lambda vault: replaced(vault, "a", ("b", "a")).text,
                     lambda vault: word_put(vault, "ab").text, lambda vault: put_amid(vault, 2, ["a"]).text):
            self.assertEqual(call(vaults[0]), call(vaults[1]))


if __name__ == "__main__":
    unittest.main()
