"""Deeds that can be taken back."""

from wordvault.checks import is_between
from wordvault.deeds import deed_done, kind_of
from wordvault.errors import BadCount, BadDeed, NothingToRedo, NothingToUndo, VaultError


class History:
    """A vault that changes by deeds; all that were done are kept, and those that were taken back."""

    def __init__(self, vault):
        self.vault = vault
        # The vaults ahead of the deeds that are done; and those behind the deeds taken back, the next one last.
        self._ahead = []
        self._undone = []

    def __len__(self):
        """How many deeds are not taken back."""
        return len(self._ahead)

    def do_all(self, deeds):
        """Does all deeds of a list, or none."""
        vaults = [self.vault]
        for index, deed in enumerate(deeds):
            if kind_of(deed) is None:
                raise BadDeed(index)
            try:
                vaults.append(deed_done(vaults[-1], deed))
            except VaultError:
                raise BadDeed(index)
        if len(vaults) > 1:
            self._undone = []
        self.vault = vaults.pop()
        self._ahead.extend(vaults)

    def undo_deed(self):
        """Takes the last deed back."""
        if not self._ahead:
            raise NothingToUndo()
        self._undone.append(self.vault)
        self.vault = self._ahead.pop()

    def redo_deed(self):
        """Does the deed again that was taken back last."""
        if not self._undone:
            raise NothingToRedo()
        self._ahead.append(self.vault)
        self.vault = self._undone.pop()

    def version_at(self, many):
        """The vault behind the first deeds, so many of those that are done."""
        if not is_between(many, 0, len(self._ahead)):
            raise BadCount(many)
        return self.vault if many == len(self._ahead) else self._ahead[many]
