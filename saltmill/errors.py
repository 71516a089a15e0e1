"""The errors that the program raises."""


class SaltmillError(ValueError):
    """The base class of all errors of the program. It is not raised itself."""


class OctetError(SaltmillError):
    """A value should be an octet string and is not one."""


class TextError(SaltmillError):
    """A text cannot be read; `at` is the index of a character."""

    def __init__(self, at):
        super().__init__(f"the text cannot be read at character {at}")
        self.at = at


class ChoiceError(SaltmillError):
    """The name of a digest, a scheme or a kind is unknown."""


class LengthError(SaltmillError):
    """A length, a size or a number of octets is wrong."""


class CostError(SaltmillError):
    """A cost is wrong."""


class OrderError(SaltmillError):
    """A call comes too early."""


class StateError(SaltmillError):
    """A text is not the text of a machine; `at` is the index of a word."""

    def __init__(self, at):
        super().__init__(f"the text of a machine cannot have this at word {at}")
        self.at = at


class RecordError(SaltmillError):
    """A text is not a password record; `at` is the index of a character."""

    def __init__(self, at):
        super().__init__(f"the password record is wrong at character {at}")
        self.at = at
