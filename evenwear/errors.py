"""The refusals: one class for each, all of them straight under WearError."""


class WearError(ValueError):
    pass


class BadSize(WearError):
    pass


class NoPage(WearError):
    pass


class NotErased(WearError):
    pass


class NoSector(WearError):
    pass


class BadContent(WearError):
    pass


class Cut(WearError):
    pass


class NoDisk(WearError):
    pass


class BadRow(WearError):
    pass
