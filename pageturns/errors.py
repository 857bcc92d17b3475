"""The refusals: one class for each, all straight under PageError."""


class PageError(ValueError):
    pass


class BadColumns(PageError):
    pass


class BadRow(PageError):
    pass


class BadOrder(PageError):
    pass


class BadSieve(PageError):
    pass


class BadPlace(PageError):
    pass


class BadSize(PageError):
    pass


class HasKey(PageError):
    pass


class NoKey(PageError):
    pass


class NoMoment(PageError):
    pass


class NoMark(PageError):
    pass


class OldMark(PageError):
    pass


class BadDeed(PageError):
    pass


class NoText(PageError):
    pass


class NoLine(PageError):
    pass
