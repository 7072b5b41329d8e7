"""Promise 69: deeds taken back."""

import random
import unittest

from tests.helpers import NO_INTEGERS, raised
from tests.hoards import GREAT, PARITY, Hoard, random_vault, random_word, words_of
from tests.test_scripts import random_deed
from wordvault.histories import History
from wordvault.vaults import same_vaults, vault_of


def any_deed(rng, hoard):
    """A deed that can be done, or sometimes not."""
    size = len(hoard.row)
    said = tuple(rng.choice(hoard.words) for _ in range(rng.randint(0, 3)))
    pick = rng.random()
    if pick < 0.2:
        return ("amid", rng.randint(0, size), said)
    if pick < 0.35:
        first = rng.randint(0, size)
        return ("take", first, rng.randint(0, size - first))
    if pick < 0.45:
        return ("recode",)
    if pick < 0.55:
        return rng.choice([("strike", rng.choice(hoard.words)), ("put", random_word(rng, "ab")), ("take", size, 1),
                           ("amid", size + 1, ()), ("behind", ("bbbbb",))])
    return random_deed(rng, hoard.words)


class HistoriesTest(unittest.TestCase):
    def test_held_against_deeds_done_one_by_one(self):
        rng = random.Random(221)
        refused = 0
        for _ in range(60):
            vault, row = random_vault(rng)
            history = History(vault)
            versions, undone = [vault], []
            hoard = Hoard(vault, row)
            for _ in range(12):
                pick = rng.random()
                if pick < 0.25:
                    if len(versions) == 1:
                        self.assertEqual(raised(history.undo_deed), ("NothingToUndo",))
                    else:
                        self.assertIsNone(history.undo_deed())
                        undone.append(versions.pop())
                elif pick < 0.45:
                    if not undone:
                        self.assertEqual(raised(history.redo_deed), ("NothingToRedo",))
                    else:
                        self.assertIsNone(history.redo_deed())
                        versions.append(undone.pop())
                else:
                    deeds, vaults, wrong = [], [], None
                    hoard = Hoard(versions[-1], words_of(versions[-1]))
                    for index in range(rng.randint(0, 3)):
                        deeds.append(any_deed(rng, hoard))
                        if wrong is None and not hoard.can(deeds[-1]):
                            wrong = index
                        elif wrong is None:
                            hoard.do(deeds[-1])
                            single = History(vaults[-1] if vaults else versions[-1])
                            single.do_all([deeds[-1]])
                            vaults.append(single.vault)
                            self.assertEqual((words_of(single.vault), list(single.vault.dictionary.words)), (hoard.row, hoard.words))
                            if deeds[-1] == ("recode",):
                                hoard.bits = list(single.vault.code.words)
                            self.assertEqual(list(single.vault.code.words), hoard.bits)
                    if wrong is not None:
                        refused += 1
                        self.assertEqual(raised(history.do_all, deeds), ("BadDeed", wrong))
                    else:
                        self.assertIsNone(history.do_all(deeds))
                        if deeds:
                            undone = []
                        versions.extend(vaults)
                self.assertEqual(len(history), len(versions) - 1)
                self.assertTrue(same_vaults(history.vault, versions[-1]))
                for many, version in enumerate(versions):
                    self.assertTrue(same_vaults(history.version_at(many), version))
                for value in NO_INTEGERS + [-1, len(versions), GREAT]:
                    self.assertEqual(raised(history.version_at, value), ("BadCount", value))
        self.assertGreater(refused, 20)

    def test_deeds_that_are_none(self):
        vault = vault_of("ab", ["a", "b", "a"], PARITY, 2)
        wrong = NO_INTEGERS + [0, "behind", ("behind",), ("behind", ["a"]), ("behind", ("a",) * 21), ("behind", ("c",)), ("behind", (None,)),
                               ("ahead", "a"), ("ahead", ("a", 7)), ["ahead", ("a",)], ("replace", "a"), ("replace", "c", ()),
                               ("replace", "a", ["b"]), ("replace", "a", ("b",) * 21), ("put", "a"), ("put", 7), ("put", "c"), ("put",),
                               ("strike", "a"), ("strike", "ab"), ("strike", None), ("amid", 0), ("amid", 9, ()), ("amid", -1, ()),
                               ("amid", "x", ()), ("amid", 0, ["a"]), ("amid", 0, ("c",)), ("amid", 0, ("a",) * 21), ("amid", True, ()),
                               ("take", 0), ("take", 0, 9), ("take", 9, 0), ("take", None, 0), ("take", 0, -1), ("take", 0, True),
                               ("recode", 0), ("recode", ()), "recode", ("undo",), (None,), ((),)]
        history = History(vault)
        history.do_all([("behind", ("a",)), ("put", "ab")])
        history.undo_deed()
        now = history.vault
        for deed in wrong:
            self.assertEqual(raised(history.do_all, [("behind", ("b",)), deed, "x"]), ("BadDeed", 1), deed)
            self.assertEqual(raised(history.do_all, (deed,)), ("BadDeed", 0))
            self.assertTrue(history.vault is now and len(history) == 1)
        # What was taken back can still be done again: nothing was done since, not by an empty list either.
        self.assertIsNone(history.do_all([]))
        self.assertIsNone(history.redo_deed())
        self.assertEqual((len(history), history.vault.dictionary.words), (2, ("a", "ab", "b")))
        self.assertEqual(raised(history.redo_deed), ("NothingToRedo",))

    def test_errors_within_a_list(self):
        history = History(vault_of("ab", ["a", "b", "a"], PARITY, 2))
        deeds = [("put", "ab"), ("replace", "a", ("ab", "b")), ("strike", "a"), ("behind", ("a",))]
        self.assertEqual(raised(history.do_all, deeds), ("BadDeed", 3))
        self.assertEqual((len(history), words_of(history.vault)), (0, ["a", "b", "a"]))
        history.do_all(deeds[:3])
        self.assertEqual((len(history), words_of(history.vault)), (3, ["ab", "b", "b", "ab", "b"]))
        self.assertEqual(raised(history.do_all, [("strike", "b")]), ("BadDeed", 0))
        self.assertEqual(raised(history.do_all, [("take", 0, 5), ("strike", "b")]), ("BadDeed", 1))
        for _ in range(3):
            history.undo_deed()
        self.assertEqual(raised(history.undo_deed), ("NothingToUndo",))
        history.redo_deed()
        self.assertEqual((len(history), words_of(history.version_at(1))), (1, ["a", "b", "a"]))
        history.do_all([("recode",)])
        self.assertEqual(raised(history.redo_deed), ("NothingToRedo",))
        self.assertEqual(raised(history.version_at, 3), ("BadCount", 3))

    def test_great_vaults(self):
        history = History(vault_of("ab", ["a", "b"], PARITY, 2))
        history.do_all([("replace", "a", ("a", "b") * 10)] * 60)
        self.assertEqual(history.vault.size, 10 ** 60 + sum(10 ** (number + 1) for number in range(60)) + 1)
        size = history.vault.size
        history.do_all([("amid", size // 2, ("b", "a")), ("take", size // 3, 10 ** 50), ("put", ""), ("recode",)])
        self.assertEqual(history.vault.size, size + 2 - 10 ** 50)
        for _ in range(64):
            history.undo_deed()
        self.assertEqual(words_of(history.vault), ["a", "b"])
        for _ in range(64):
            history.redo_deed()
        self.assertEqual((len(history), history.vault.size), (64, size + 2 - 10 ** 50))


if __name__ == "__main__":
    unittest.main()
