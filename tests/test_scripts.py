"""Promises 66 and 67: what deeds do to all texts."""

import itertools
import random
import time
import unittest

from tests.helpers import NO_INTEGERS, listed, raised, random_text
from tests.hoards import GREAT, Hoard, random_dictionary, random_vault, random_word, words_of
from wordvault.codes import Code
from wordvault.deeds import replaced, said_behind
from wordvault.dictionaries import Dictionary
from wordvault.guards import Guard
from wordvault.levels import same
from wordvault.scripts import Script, ScriptsAlike, ScriptsApart, done_script, judge_scripts
from wordvault.texts import Text
from wordvault.vaults import Vault

PARITY = Guard(2, [[1]], [[1]], [0], [0])
TWO = Dictionary("ab", ["a", "b"])


def random_deed(rng, words, letters="ab"):
    """Any deed over these words that a script may have then."""
    while True:
        kind = rng.choice(["behind", "ahead", "replace", "replace", "replace", "put", "strike", "strike"])
        said = tuple(rng.choice(words) for _ in range(rng.choice([0, 1, 1, 2, 3])))
        if kind in ("behind", "ahead") and rng.random() < 0.5:
            return (kind, said)
        if kind == "replace":
            return (kind, rng.choice(words), said)
        if kind == "put":
            word = random_word(rng, letters)
            if word not in words:
                return (kind, word)
        if kind == "strike" and len(words) > 2:
            return (kind, rng.choice(words))


def random_deeds(rng, dictionary, most):
    """The deeds of any script."""
    words, deeds = list(dictionary.words), []
    for _ in range(rng.randint(0, most)):
        deed = random_deed(rng, words)
        if deed[0] == "put":
            words.append(deed[1])
        elif deed[0] == "strike":
            words.remove(deed[1])
        deeds.append(deed)
    return deeds


def made_told(dictionary, deeds, row):
    """The words that are made of a row of words; or the index of the first deed that refuses it."""
    row = list(row)
    for index, deed in enumerate(deeds):
        kind = deed[0]
        if kind == "behind":
            row = row + list(deed[1])
        elif kind == "ahead":
            row = list(deed[1]) + row
        elif kind == "replace":
            row = [told for word in row for told in (deed[2] if word == deed[1] else [word])]
        elif kind == "strike" and deed[1] in row:
            return index
    return row


def rows_of_words(words, most):
    for size in range(most + 1):
        for row in itertools.product(words, repeat=size):
            yield row


def text_of(dictionary, row):
    numbers = [(dictionary.number_of(word), 1) for word in row]
    return Text(dictionary.many, {"A": numbers}, "A")


def spelled(dictionary, text):
    return [dictionary.words[number] for number in listed(text)]


class ScriptsTest(unittest.TestCase):
    def test_held_against_lists(self):
        rng = random.Random(201)
        kinds = {}
        for _ in range(200):
            dictionary = random_dictionary(rng, 2, 4)
            deeds = random_deeds(rng, dictionary, 6)
            script = Script(dictionary, deeds)
            self.assertEqual((script.dictionary, script.deeds), (dictionary, tuple(deeds)))
            told = {row: made_told(dictionary, deeds, row) for row in rows_of_words(dictionary.words, 2)}
            if isinstance(told[()], int):
                kinds["all"] = True
                self.assertEqual((script.refused, script.front, script.back), (None, None, None))
                for word in dictionary.words:
                    self.assertEqual(raised(script.image_of, word), ("NoWord", word))
            else:
                refused = tuple(word for word in dictionary.words if isinstance(told[(word,)], int))
                kinds[len(refused) > 0] = True
                self.assertEqual(script.refused, refused)
                front, back = spelled(script.target, script.front), spelled(script.target, script.back)
                self.assertEqual(front + back, told[()])
                for word in dictionary.words:
                    if word in refused:
                        self.assertEqual(raised(script.image_of, word), ("NoWord", word))
                    else:
                        image = script.image_of(word)
                        self.assertEqual(image.signs, script.target.many)
                        self.assertEqual(front + spelled(script.target, image) + back, told[(word,)])
            for row, made in told.items():
                text = text_of(dictionary, row)
                if isinstance(made, int):
                    self.assertEqual(raised(script.made_of, text), ("Refused", made))
                else:
                    self.assertEqual(spelled(script.target, script.made_of(text)), made)
        self.assertEqual(len(kinds), 3)

    def test_targets(self):
        script = Script(TWO, [("put", ""), ("put", "ab"), ("strike", "a"), ("put", "a"), ("strike", "")])
        self.assertEqual(script.target.words, ("a", "ab", "b"))
        self.assertEqual(script.refused, ("a",))
        self.assertEqual(raised(script.made_of, text_of(TWO, ["b", "a"])), ("Refused", 2))
        self.assertEqual(listed(script.made_of(text_of(TWO, ["b", "b"]))), [2, 2])
        self.assertEqual(listed(script.image_of("b")), [2])
        none = Script(TWO, [])
        self.assertEqual((none.target, none.refused, listed(none.front), listed(none.back)), (TWO, (), [], []))

    def test_said_behind_and_ahead(self):
        deeds = [("behind", ("a",)), ("ahead", ("a",)), ("ahead", ("b", "a")), ("replace", "a", ("a", "b")), ("behind", ("a",))]
        script = Script(TWO, deeds)
        self.assertEqual((listed(script.front), listed(script.back)), ([1, 0, 1, 0, 1], [0, 1, 0]))
        self.assertEqual(listed(script.image_of("a")), [0, 1])
        refusing = Script(TWO, [("put", "ab"), ("behind", ("ab",)), ("strike", "ab")])
        self.assertEqual((refusing.refused, refusing.front), (None, None))
        self.assertEqual(raised(refusing.made_of, text_of(TWO, [])), ("Refused", 2))
        # The word is refused by an earlier deed than all others are.
        refusing = Script(Dictionary("ab", ["a", "b", "ab"]), [("strike", "a"), ("behind", ("b",)), ("put", "a"), ("strike", "b")])
        self.assertEqual(raised(refusing.made_of, text_of(refusing.dictionary, ["a"])), ("Refused", 0))
        self.assertEqual(raised(refusing.made_of, text_of(refusing.dictionary, ["ab"])), ("Refused", 3))

    def test_great_images(self):
        began = time.time()
        deeds = [("replace", "a" if number % 2 else "b", ("a", "b") * 10) for number in range(30)]
        script = Script(TWO, deeds)
        image = script.image_of("a")
        sizes = {"a": 1, "b": 1}
        for _, word, said in deeds[::-1]:
            sizes[word] = sum(sizes[one] for one in said)
        self.assertEqual((image.size, script.image_of("b").size), (sizes["a"], sizes["b"]))
        self.assertGreater(image.size, 10 ** 18)
        # Each word becomes 20 words, 30 times.
        names = ["a", "b", "ab", "ba"]
        twenty = [("replace", "a", ("b",) * 20), ("replace", "b", ("a",) * 20)] * 15
        told = Script(Dictionary("ab", names), twenty)
        self.assertEqual(told.image_of("a").size, 20 ** 30)
        text = Text(4, {"A": [(1, GREAT)]}, "A")
        self.assertEqual(told.made_of(text).size, GREAT * told.image_of("ab").size)
        text = Text(4, {"A": [(0, GREAT), (2, 1)]}, "A")
        self.assertEqual(told.made_of(text).size, GREAT * 20 ** 30 + told.image_of("b").size)
        hundred = Script(TWO, twenty * 3 + [("behind", ("a",) * 20), ("ahead", ("b",) * 20)] * 5)
        self.assertEqual((hundred.image_of("a").size, hundred.front.size, hundred.back.size), (20 ** 90, 100, 100))
        self.assertEqual(len(hundred.deeds), 100)
        self.assertLess(time.time() - began, 20)

    def test_errors_in_order(self):
        one = Dictionary("ab", ["a"])
        self.assertEqual(raised(Script, one, ["x"] * 101), ("TooMany", "signs", 1, 2000))
        self.assertEqual(raised(Script, TWO, ["x"] * 101), ("TooMany", "deeds", 101, 100))
        self.assertEqual(len(Script(TWO, [("behind", ())] * 100).deeds), 100)
        wrong = NO_INTEGERS + [0, "behind", ("behind",), ("behind", "a"), ("behind", ["a"]), ("behind", ("c",)), ("behind", ("ab",)),
                               ("behind", (None,)), ("behind", ("a",) * 21), ("behind", ("a",), ()), ["behind", ("a",)],
                               ("ahead", None), ("ahead", ("a", 7)), ("Behind", ("a",)), (None, ("a",)), (("behind",), ("a",)),
                               ("replace", "a"), ("replace", "a", "b"), ("replace", "a", ["b"]), ("replace", "c", ("a",)),
                               ("replace", "a", ("c",)), ("replace", None, ()), ("replace", "a", ("b",) * 21), ("replace", ["a"], ()),
                               ("put",), ("put", "a"), ("put", "c"), ("put", None), ("put", "a" * 201), ("put", ["ab"]), ("put", "ab", 0),
                               ("strike",), ("strike", "ab"), ("strike", None), ("strike", "a"), ("strike", "b"), ("strike", ("a",)),
                               ("amid", 0, ("a",)), ("take", 0, 0), ("recode",)]
        for deed in wrong:
            self.assertEqual(raised(Script, TWO, [("behind", ("a",)), deed, "x"]), ("BadDeed", 1), deed)
        self.assertEqual(raised(Script, TWO, [("put", "ab"), ("strike", "a"), ("behind", ("a",))]), ("BadDeed", 2))
        self.assertEqual(raised(Script, TWO, [("put", "ab"), ("put", "ab")]), ("BadDeed", 1))
        words = [format(number, "011b").replace("0", "a").replace("1", "b") for number in range(2000)]
        great = Dictionary("ab", words)
        self.assertEqual(raised(Script, great, [("put", "a")]), ("BadDeed", 0))
        self.assertEqual(Script(great, [("strike", words[7]), ("put", "a")]).target.many, 2000)

    def test_errors_of_methods(self):
        script = Script(TWO, [("put", "ab")])
        for value in NO_INTEGERS + [0, "ab", "c"]:
            if value != "a":
                self.assertEqual(raised(script.image_of, value), ("NoWord", value))
        self.assertEqual(raised(script.made_of, Text(3, {"A": []}, "A")), ("OtherSigns",))
        refused = Script(TWO, [("put", "ab"), ("strike", "a")])
        self.assertEqual(raised(refused.made_of, Text(3, {"A": [(0, 1)]}, "A")), ("OtherSigns",))

    def test_what_is_handed_in_may_change(self):
        deeds = [("behind", ("a",))]
        script = Script(TWO, deeds)
        deeds.append(7)
        self.assertEqual(script.deeds, (("behind", ("a",)),))

    def test_deeds_done_to_vaults(self):
        rng = random.Random(202)
        for _ in range(150):
            vault, row = random_vault(rng)
            deeds = random_deeds(rng, vault.dictionary, 5)
            script = Script(vault.dictionary, deeds)
            hoard, used = Hoard(vault, row), None
            for deed in deeds:
                if not hoard.can(deed):
                    used = ("UsedWord", deed[1], hoard.row.count(deed[1]))
                    break
                hoard.do(deed)
            if used:
                self.assertEqual(raised(done_script, vault, script), used)
                self.assertEqual(raised(script.made_of, vault.text)[0], "Refused")
            else:
                told = done_script(vault, script)
                self.assertEqual((words_of(told), told.dictionary, list(told.code.words)), (hoard.row, script.target, hoard.bits))
                self.assertTrue(same(told.text, script.made_of(vault.text)))
        other = Script(Dictionary("ba", ["a", "b"]), [])
        vault = Vault(TWO, text_of(TWO, ["a"]), Code([1, 1]), PARITY, 1)
        self.assertEqual(raised(done_script, vault, other), ("OtherDictionary",))
        self.assertEqual(raised(done_script, vault, Script(Dictionary("ab", ["a", "b", ""]), [])), ("OtherDictionary",))


class JudgeScriptsTest(unittest.TestCase):
    def unlike_at(self, one, other, row):
        """None if two scripts are alike for a row of words; otherwise (place,)."""
        made, against = made_told(one.dictionary, one.deeds, row), made_told(other.dictionary, other.deeds, row)
        if isinstance(made, int) or isinstance(against, int):
            return None if isinstance(made, int) and isinstance(against, int) else (None,)
        for place in range(max(len(made), len(against))):
            if made[place:place + 1] != against[place:place + 1]:
                return (place,)
        return None

    def check(self, one, other):
        told = judge_scripts(one, other)
        self.assertTrue(told.one is one and told.other is other)
        for row in [()] + [(word,) for word in one.dictionary.words]:
            place = self.unlike_at(one, other, row)
            if place is not None:
                self.assertIsInstance(told, ScriptsApart)
                self.assertEqual((told.word, told.place), (row[0] if row else None, place[0]))
                return False
        self.assertIsInstance(told, ScriptsAlike)
        for row in rows_of_words(one.dictionary.words, 3):
            self.assertIsNone(self.unlike_at(one, other, row))
        return True

    def test_held_against_all_short_texts(self):
        rng = random.Random(203)
        kinds = {True: 0, False: 0}
        for number in range(400):
            dictionary = random_dictionary(rng, 2, 3)
            deeds = random_deeds(rng, dictionary, 4)
            other = random_deeds(rng, dictionary, 4)
            if number % 2:
                other = list(deeds)
                at = rng.randint(0, len(other))
                other[at:at] = rng.choice([[("behind", ())], [("replace", dictionary.words[0], (dictionary.words[0],))],
                                           [("put", "bbbb"), ("strike", "bbbb")], [("put", "bbbb")]])
            try:
                pair = Script(dictionary, deeds), Script(dictionary, other)
            except ValueError:
                continue
            kinds[self.check(*pair)] += 1
        self.assertGreater(min(kinds.values()), 50)

    def test_moved_fronts(self):
        # Each word becomes a row of the same word: what stands ahead may stand behind as well.
        all_b = [("replace", "a", ("b", "b"))]
        self.assertTrue(self.check(Script(TWO, all_b + [("behind", ("b",))]), Script(TWO, all_b + [("ahead", ("b",))])))
        self.assertFalse(self.check(Script(TWO, [("behind", ("b",))]), Script(TWO, [("ahead", ("b",))])))
        ring = Script(TWO, [("replace", "a", ("a", "b")), ("replace", "b", ("b", "a")), ("ahead", ("a",))])
        self.assertTrue(self.check(ring, ring))

    def test_refusals(self):
        three = Dictionary("ab", ["a", "b", "ab"])
        strike_a, strike_b = Script(three, [("strike", "a")]), Script(three, [("strike", "b")])
        self.assertFalse(self.check(strike_a, strike_b))
        all_refused = Script(three, [("behind", ("a",)), ("strike", "a")])
        self.assertTrue(self.check(all_refused, Script(three, [("ahead", ("b",)), ("strike", "b")])))
        self.assertFalse(self.check(all_refused, strike_a))
        self.assertFalse(self.check(strike_a, all_refused))
        self.assertTrue(self.check(strike_a, Script(three, [("strike", "a"), ("put", "a")])))
        self.assertTrue(self.check(strike_a, Script(three, [("put", ""), ("strike", "a")])))

    def test_great_images(self):
        began = time.time()
        deeds = [("replace", "a", ("b",) * 20), ("replace", "b", ("a",) * 20)] * 50
        one, other = Script(TWO, deeds), Script(TWO, deeds[:98] + [("replace", "a", ("b",) * 20), ("replace", "b", ("a",) * 20)])
        self.assertIsInstance(judge_scripts(one, other), ScriptsAlike)
        less = Script(TWO, deeds[:98] + [("replace", "a", ("b",) * 20), ("replace", "b", ("a",) * 19)])
        told = judge_scripts(one, less)
        self.assertEqual((told.word, told.place), ("a", 20 ** 99 * 19))
        ahead, behind = Script(TWO, deeds[:99] + [("ahead", ("b",) * 20)]), Script(TWO, deeds[:99] + [("behind", ("b",) * 20)])
        self.assertIsInstance(judge_scripts(ahead, behind), ScriptsAlike)
        self.assertEqual(ahead.made_of(text_of(TWO, ["a", "b"])).size, ahead.image_of("a").size + ahead.image_of("b").size + 20)
        words = [format(number, "011b").replace("0", "a").replace("1", "b") for number in range(2000)]
        great = Dictionary("ab", words)
        some = [("replace", words[number], (words[number + 1],) * 20) for number in range(100)]
        self.assertIsInstance(judge_scripts(Script(great, some), Script(great, some)), ScriptsAlike)
        self.assertLess(time.time() - began, 60)

    def test_other_dictionaries(self):
        self.assertEqual(raised(judge_scripts, Script(TWO, []), Script(Dictionary("ba", ["a", "b"]), [])), ("OtherDictionary",))
        self.assertEqual(raised(judge_scripts, Script(TWO, []), Script(Dictionary("ab", ["a", "b", ""]), [])), ("OtherDictionary",))

    def test_deeds_agree(self):
        vault = Vault(TWO, text_of(TWO, ["a", "b"]), Code([1, 1]), PARITY, 1)
        told = done_script(vault, Script(TWO, [("replace", "a", ("b", "a")), ("behind", ("a",))]))
        self.assertEqual(words_of(told), words_of(said_behind(replaced(vault, "a", ["b", "a"]), ["a"])))
        rng = random.Random(204)
        self.assertEqual(random_text(rng, 2, 3)[0].signs, 2)


if __name__ == "__main__":
    unittest.main()
