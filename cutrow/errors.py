"""The refusals of the program, one class for each."""


class CutError(ValueError):
    pass


class BadRow(CutError):
    pass


class BadNumber(CutError):
    pass


class BadCuts(CutError):
    pass


class BadText(CutError):
    pass
