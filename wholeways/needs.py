"""What several parts need of an argument: each raises the error that is named for it."""

from wholeways.errors import NoKey
from wholeways.kinds import is_key


def need_key(key):
    if not is_key(key):
        raise NoKey()
