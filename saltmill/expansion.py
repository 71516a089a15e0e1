"""The derivation of long octet strings from strong keys, whole and in pieces."""

from saltmill.codes import hmac
from saltmill.derivations import Derivation, derived, read_request
from saltmill.errors import LengthError
from saltmill.octets import MOST_OCTETS
from saltmill.saved import SavedText, saved_text


def hkdf_extract(name, salt, material):
    """The strong key of HKDF that is in a material."""
    return hmac(name, salt, material)


def hkdf_expand(name, key, info, size):
    """The octets of HKDF for an info."""
    return derived(("hkdf", name, key, info, size))


def counter_kdf(name, key, label, context, size):
    """The octets of the keyed derivation that counts its blocks."""
    return derived(("counter", name, key, label, context, size))


def feedback_kdf(name, key, iv, label, context, size):
    """The octets of the keyed derivation whose blocks go into the blocks behind them."""
    return derived(("feedback", name, key, iv, label, context, size))


def pipeline_kdf(name, key, label, context, size):
    """The octets of the keyed derivation that makes each block from a second chain of tags."""
    return derived(("pipeline", name, key, label, context, size))


def one_step_kdf(name, secret, info, size):
    """The octets of the derivation by a digest without a key."""
    return derived(("one_step", name, secret, info, size))


def expand_label(name, key, label, context, size):
    """The octets of HKDF for a label and a context."""
    return derived(("label", name, key, label, context, size))


class Reader:
    """The output of one derivation in pieces."""

    def __init__(self, request):
        self._derivation = Derivation(request)
        self._done = 0
        self._held = self._derivation.first_held()

    @property
    def left(self):
        """The number of octets that were not read yet."""
        return self._derivation.size - self._done

    def read(self, count):
        """The next octets of the output, or all that are left if they are fewer."""
        if not 0 <= count <= MOST_OCTETS:
            raise LengthError()
        end = self._done + min(count, self.left)
        octets = []
        while self._done < end:
            number, at = divmod(self._done, self._derivation.block_size)
            if at == 0:
                self._held = self._derivation.next_held(number + 1, self._held)
            piece = self._derivation.block(self._held)[at:at + end - self._done]
            octets.extend(piece)
            self._done += len(piece)
        return tuple(octets)

    def save(self):
        """The state as a text."""
        held = self._held if self._done > 0 else ()
        words = ("reader", self._derivation.scheme, self._derivation.digest_name)
        return saved_text(words, self._derivation.numbers() + (self._done,) + held)


def restore_reader(text):
    """The reader in the state of a text."""
    words = SavedText(text)
    words.word(("reader",))
    reader = Reader(read_request(words))
    reader._done = words.number(0, reader.left)
    if reader._done > 0:
        reader._held = words.numbers(reader._derivation.held_length(), 255)
    words.end()
    return reader
