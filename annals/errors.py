"""The refusals of Annals, one class for each."""


class AnnalsError(ValueError):
    pass


class NoThing(AnnalsError):
    pass


class NoName(AnnalsError):
    pass


class BadPath(AnnalsError):
    pass


class BadFiles(AnnalsError):
    pass


class NoFit(AnnalsError):
    pass


class Clash(AnnalsError):
    pass


class NoVersion(AnnalsError):
    pass


class NoBranch(AnnalsError):
    pass


class BadBranch(AnnalsError):
    pass


class BadLine(AnnalsError):
    pass
