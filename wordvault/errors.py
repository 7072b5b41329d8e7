"""The errors of the package: each one has its fields as attributes."""

from wordvault.copies import copied


class VaultError(ValueError):
    """What all errors of the package are below."""


class TooMany(VaultError):
    def __init__(self, what, many, most):
        self.what = copied(what)
        self.many = copied(many)
        self.most = copied(most)


class BadMany(VaultError):
    def __init__(self, many):
        self.many = copied(many)


class BadMap(VaultError):
    def __init__(self, index):
        self.index = copied(index)


class BadRange(VaultError):
    def __init__(self, index):
        self.index = copied(index)


class OtherMap(VaultError):
    def __init__(self):
        pass


class NoNumber(VaultError):
    def __init__(self, number):
        self.number = copied(number)


class BadLetters(VaultError):
    def __init__(self, letters):
        self.letters = copied(letters)


class BadWord(VaultError):
    def __init__(self, index):
        self.index = copied(index)


class NoWord(VaultError):
    def __init__(self, word):
        self.word = copied(word)


class NotWord(VaultError):
    def __init__(self, word):
        self.word = copied(word)


class OldWord(VaultError):
    def __init__(self, word):
        self.word = copied(word)


class OtherLetters(VaultError):
    def __init__(self):
        pass


class BadPart(VaultError):
    def __init__(self, path):
        self.path = copied(path)


class BadMost(VaultError):
    def __init__(self, most):
        self.most = copied(most)


class BadSigns(VaultError):
    def __init__(self, signs):
        self.signs = copied(signs)


class BadRule(VaultError):
    def __init__(self, name):
        self.name = copied(name)


class Ring(VaultError):
    def __init__(self, name):
        self.name = copied(name)


class NoRule(VaultError):
    def __init__(self, root):
        self.root = copied(root)


class BadPlace(VaultError):
    def __init__(self, place):
        self.place = copied(place)


class BadSize(VaultError):
    def __init__(self, size):
        self.size = copied(size)


class BadSign(VaultError):
    def __init__(self, index):
        self.index = copied(index)


class BadCount(VaultError):
    def __init__(self, count):
        self.count = copied(count)


class OtherSigns(VaultError):
    def __init__(self):
        pass


class BadNode(VaultError):
    def __init__(self, node):
        self.node = copied(node)


class BadBits(VaultError):
    def __init__(self, index):
        self.index = copied(index)


class BadRow(VaultError):
    def __init__(self, state):
        self.state = copied(state)


class BadStart(VaultError):
    def __init__(self, start):
        self.start = copied(start)


class BadMark(VaultError):
    def __init__(self, index):
        self.index = copied(index)


class BadState(VaultError):
    def __init__(self, state):
        self.state = copied(state)


class BadReading(VaultError):
    def __init__(self, index):
        self.index = copied(index)


class BadHow(VaultError):
    def __init__(self, how):
        self.how = copied(how)


class BadSpot(VaultError):
    def __init__(self, index):
        self.index = copied(index)


class BadWish(VaultError):
    def __init__(self, wish):
        self.wish = copied(wish)


class BadClasses(VaultError):
    def __init__(self, index):
        self.index = copied(index)


class BadWidth(VaultError):
    def __init__(self, width):
        self.width = copied(width)


class BadTree(VaultError):
    def __init__(self, state):
        self.state = copied(state)


class BadWay(VaultError):
    def __init__(self, way):
        self.way = copied(way)


class Unfit(VaultError):
    def __init__(self, spot):
        self.spot = copied(spot)


class BadSaid(VaultError):
    def __init__(self, index):
        self.index = copied(index)


class BadTally(VaultError):
    def __init__(self, index):
        self.index = copied(index)


class BadLength(VaultError):
    def __init__(self, index):
        self.index = copied(index)


class NotFull(VaultError):
    def __init__(self):
        pass


class Begins(VaultError):
    def __init__(self, index, other):
        self.index = copied(index)
        self.other = copied(other)


class OtherSize(VaultError):
    def __init__(self, many, wanted):
        self.many = copied(many)
        self.wanted = copied(wanted)


class NotLeast(VaultError):
    def __init__(self):
        pass


class BadRank(VaultError):
    def __init__(self, rank):
        self.rank = copied(rank)


class Counted(VaultError):
    def __init__(self, sign):
        self.sign = copied(sign)


class BadHistory(VaultError):
    def __init__(self, index):
        self.index = copied(index)


class BadModulus(VaultError):
    def __init__(self, modulus):
        self.modulus = copied(modulus)


class NotUndone(VaultError):
    def __init__(self):
        pass


class BadMatrix(VaultError):
    def __init__(self, index):
        self.index = copied(index)


class BadColumns(VaultError):
    def __init__(self, index):
        self.index = copied(index)


class BadBegin(VaultError):
    def __init__(self, index):
        self.index = copied(index)


class BadEnd(VaultError):
    def __init__(self, index):
        self.index = copied(index)


class BadSymbol(VaultError):
    def __init__(self, index):
        self.index = copied(index)


class BadPolynomial(VaultError):
    def __init__(self, polynomial):
        self.polynomial = copied(polynomial)


class BadBlock(VaultError):
    def __init__(self, block):
        self.block = copied(block)


class BadTurns(VaultError):
    def __init__(self, index):
        self.index = copied(index)


class OtherGuard(VaultError):
    def __init__(self):
        pass


class BadKind(VaultError):
    def __init__(self, kind):
        self.kind = copied(kind)


class UsedWord(VaultError):
    def __init__(self, word, many):
        self.word = copied(word)
        self.many = copied(many)


class BadDeed(VaultError):
    def __init__(self, index):
        self.index = copied(index)


class Refused(VaultError):
    def __init__(self, index):
        self.index = copied(index)


class OtherDictionary(VaultError):
    def __init__(self):
        pass


class NothingToUndo(VaultError):
    def __init__(self):
        pass


class NothingToRedo(VaultError):
    def __init__(self):
        pass
