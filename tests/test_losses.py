"""Promise 68: what scripts lose."""

import random
import time
import unittest

from tests.helpers import NO_INTEGERS, raised
from tests.hoards import random_dictionary
from tests.test_scripts import made_told, random_deeds, rows_of_words
from wordvault.dictionaries import Dictionary
from wordvault.losses import KeepsAll, Loses, is_keeps_all, is_loses, judge_losses
from wordvault.scripts import Script

TWO = Dictionary("ab", ["a", "b"])


def images_told(script):
    """The images of all words that are not refused, as tuples of numbers."""
    if script.refused is None:
        return {}
    told = {}
    for word in script.dictionary.words:
        if word not in script.refused:
            image = script.image_of(word)
            told[word] = image.part(0, image.size)
    return told


def left_of(one, other):
    """What is left of the longer one of two tuples, if the shorter one stands at its beginning; None if not."""
    size = min(len(one), len(other))
    return one[size:] + other[size:] if one[:size] == other[:size] else None


def rests_told(script):
    """All rests, by rounds."""
    images = images_told(script)
    rests = {left_of(images[one], images[other]) for one in images for other in images if one != other} - {None}
    while True:
        more = rests | {left_of(rest, image) for rest in rests for image in images.values()} - {None}
        if more == rests:
            return rests
        rests = more


def fewest_lost(script, most):
    """The fewest words together of two unlike texts of which a script makes the same; None if there are none."""
    seen, best = {}, None
    for row in rows_of_words(list(images_told(script)), most):
        made = tuple(made_told(script.dictionary, script.deeds, row))
        for other in seen.get(made, []):
            if best is None or len(row) + len(other) < best:
                best = len(row) + len(other)
        seen.setdefault(made, []).append(row)
    return best


class LossesTest(unittest.TestCase):
    def test_held_against_all_short_texts(self):
        rng = random.Random(211)
        kinds = {}
        for _ in range(250):
            dictionary = random_dictionary(rng, 2, 4)
            script = Script(dictionary, random_deeds(rng, dictionary, 5))
            self.check(script, kinds)
        self.assertGreater(min(kinds.values()), 20)

    def test_rows_of_two_words(self):
        # Longer codes: words are replaced by rows of a and b.
        rng = random.Random(212)
        kinds = {}
        words = ["ab", "ba", "aab", "bba"]
        for _ in range(150):
            deeds = [("replace", word, tuple(rng.choice("ab") for _ in range(rng.randint(1, 4)))) for word in words[:rng.randint(2, 4)]]
            self.check(Script(Dictionary("ab", ["a", "b"] + words), deeds), kinds, 3)
            # Words that are put in stand for the letters of the images: they are no words of the texts.
            letters = {"a": "aaaa", "b": "bbbb"}
            deeds = [("replace", word, tuple(letters[one] for one in said)) for _, word, said in deeds]
            self.check(Script(Dictionary("ab", words), [("put", "aaaa"), ("put", "bbbb")] + deeds), kinds, 3)
        self.assertGreater(min(kinds.values()), 20)

    def check(self, script, kinds, most=4):
        told = judge_losses(script)
        self.assertTrue(told.script is script)
        fewest = fewest_lost(script, most) if script.refused is not None else None
        kinds[type(told).__name__] = kinds.get(type(told).__name__, 0) + 1
        if isinstance(told, Loses):
            self.assertNotEqual(told.one, told.other)
            self.assertEqual(made_told(script.dictionary, script.deeds, told.one), made_told(script.dictionary, script.deeds, told.other))
            self.assertTrue(is_loses(told))
            many = len(told.one + told.other)
            if max(len(told.one), len(told.other)) <= most:
                self.assertEqual(many, fewest)
            else:
                self.assertTrue(fewest is None or many < fewest)
            rests = rests_told(script) - {()}
            self.assertFalse(is_keeps_all(KeepsAll(script, rests)))
            self.assertFalse(is_keeps_all(KeepsAll(script, tuple(rests))))
        else:
            self.assertIsNone(fewest)
            self.assertEqual(told.rests, tuple(sorted(rests_told(script))))
            self.assertTrue(is_keeps_all(told))

    def test_fewest_words(self):
        # 0, 01, 11: no two are read alike; 0, 01, 10: 0 10 and 01 0.
        names = Dictionary("ab", ["a", "b", "aa", "ab", "ba"])
        deeds = [("replace", "aa", ("a", "a")), ("replace", "ab", ("a", "b")), ("replace", "ba", ("b", "b"))]
        told = judge_losses(Script(names, deeds))
        self.assertEqual({told.one, told.other}, {("a", "a"), ("aa",)})
        # Rows of one word, 7 and 5 times: 7 * 5 is 5 * 7.
        seven = Script(TWO, [("put", "ab"), ("replace", "a", ("ab",) * 7), ("replace", "b", ("ab",) * 5)])
        told = judge_losses(seven)
        self.assertEqual({told.one, told.other}, {("a", "b"), ("b", "a")})

    def test_empty_and_equal_images(self):
        told = judge_losses(Script(TWO, [("replace", "b", ())]))
        self.assertEqual(sorted([told.one, told.other]), [(), ("b",)])
        told = judge_losses(Script(TWO, [("replace", "b", ("a",)), ("behind", ("a",))]))
        self.assertEqual(sorted([told.one, told.other]), [("a",), ("b",)])
        told = judge_losses(Script(TWO, []))
        self.assertEqual(told.rests, ())

    def test_all_texts_refused(self):
        script = Script(Dictionary("ab", ["a", "b", "ab"]), [("behind", ("a",)), ("replace", "b", ()), ("strike", "a")])
        told = judge_losses(script)
        self.assertEqual((type(told), told.rests), (KeepsAll, ()))
        self.assertTrue(is_keeps_all(told))
        self.assertFalse(is_loses(Loses(script, ("b",), ())))
        # Words that are refused do not count.
        some = Script(Dictionary("ab", ["a", "b", "ab"]), [("replace", "a", ("b",)), ("replace", "ab", ()), ("strike", "b")])
        self.assertEqual(some.refused, ("a", "b"))
        told = judge_losses(some)
        self.assertEqual(sorted([told.one, told.other]), [(), ("ab",)])
        self.assertFalse(is_loses(Loses(some, ("a",), ("b",))))

    def test_bounds(self):
        deeds = [("replace", "a", ("b",) * 20), ("replace", "b", ("a",) * 20)] * 3
        script = Script(TWO, deeds)
        many = script.image_of("a").size + script.image_of("b").size
        self.assertEqual(raised(judge_losses, script), ("TooMany", "words", many, 2000))
        self.assertEqual(raised(is_keeps_all, KeepsAll(script, ())), ("TooMany", "words", many, 2000))
        # However many words.
        great = Script(TWO, deeds * 10)
        self.assertGreater(great.image_of("a").size, 10 ** 30)
        self.assertIs(is_loses(Loses(great, ("a", "b"), ("b", "a"))), True)
        self.assertIs(is_loses(Loses(great, ("a",), ("b", "a"))), False)
        words = [format(number, "011b").replace("0", "a").replace("1", "b") for number in range(2000)]
        began = time.time()
        self.assertEqual(judge_losses(Script(Dictionary("ab", words), [])).rests, ())
        self.assertEqual(raised(judge_losses, Script(Dictionary("ab", words), [("replace", words[3], (words[3],) * 2)])),
                         ("TooMany", "words", 2001, 2000))
        self.assertLess(time.time() - began, 30)

    def test_rests_of_any_kind(self):
        names = Dictionary("ab", ["a", "b", "ab"])
        script = Script(names, [("put", "bbb"), ("replace", "b", ("a", "bbb")), ("replace", "ab", ("a", "bbb", "bbb"))])
        fine = judge_losses(script)
        self.assertIsInstance(fine, KeepsAll)

        def told(rests):
            return is_keeps_all(KeepsAll(script, rests))

        rests = list(fine.rests)
        self.assertTrue(len(rests) > 1 and told(rests) and told(rests[::-1] + rests) and told([list(rest) for rest in rests]))
        for at in range(len(rests)):
            self.assertFalse(told(rests[:at] + rests[at + 1:]))
        for value in NO_INTEGERS + [7, "rests", (), [()]]:
            self.assertIs(told(value), False)
            if value != [1]:
                self.assertIs(told(rests + [value]), False)
        for bent in [(4,), (-1,), (True,), (None,), ((0,),), "0"]:
            self.assertIs(told(rests + [bent]), False)
        # More are let, with what is left of them: the word ab is made of none; of a nothing is left.
        self.assertEqual((script.target.words, rests), (("a", "ab", "b", "bbb"), [(3,), (3, 3)]))
        self.assertTrue(told(rests + [(1,), (3, 1), (1, 0, 2)]))
        self.assertTrue(told(rests + [(0, 1), (1,)]))
        self.assertFalse(told(rests + [(0, 1)]))
        self.assertFalse(told(rests + [(0,)]))
        for value in NO_INTEGERS + [7, TWO]:
            self.assertIs(is_keeps_all(KeepsAll(value, ())), False)
            self.assertIs(is_loses(Loses(value, ("a",), ("b",))), False)

    def test_words_of_any_kind(self):
        script = Script(TWO, [("replace", "b", ("a", "a"))])
        for one, other, wished in [(("b",), ("a", "a"), True), (["b"], ["a", "a"], True), (("a", "b"), ("b", "a"), True),
                                   (("b",), ("b",), False), ((), (), False), (("b",), ("a",), False), (("c",), ("a", "a"), False),
                                   (("b",), ("a", 7), False), (("b",), (), False)]:
            self.assertIs(is_loses(Loses(script, one, other)), wished)
        for value in NO_INTEGERS + [7, "b", ("x",)]:
            self.assertIs(is_loses(Loses(script, value, ("a", "a"))), False)
            self.assertIs(is_loses(Loses(script, ("a", "a"), value)), False)


if __name__ == "__main__":
    unittest.main()
