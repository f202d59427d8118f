"""The refusals of the program."""


class SlitError(ValueError):
    pass


class NoText(SlitError):
    pass


class NoWidth(SlitError):
    pass


class NoView(SlitError):
    pass


class NoWindow(SlitError):
    pass


class Never(SlitError):
    pass


class Full(SlitError):
    pass


class Nothing(SlitError):
    pass


class Unlike(SlitError):
    pass


class NoPlace(SlitError):
    pass


class NoLetters(SlitError):
    pass


class BadText(SlitError):
    pass
