"""What a disk means, by what lies there alone."""

from wholeways.disk import Disk
from wholeways.errors import BadDisk
from wholeways.kinds import GREATEST_COMMIT
from wholeways.pages import Pages
from wholeways.versions import dict_at


def opened_copy(disk):
    """The pages of a copy of the disk, to which nothing that waits has come."""
    if not isinstance(disk, Disk):
        raise BadDisk()
    return Pages(disk.copy())


def pages_of(disk):
    """The dict from all pages below high to their items."""
    pages = opened_copy(disk)
    return {page: pages.held(page) for page in range(pages.high())}


def prefix_of(disk):
    """The list of the pairs (number, note) of the prefix of the log."""
    return opened_copy(disk).notes()


def meaning(disk):
    """The dict from keys to worths that the newest versions tell, without those that are gone."""
    return dict_at(opened_copy(disk).batch(), GREATEST_COMMIT)


def commits_of(disk):
    """The number of the last commit."""
    return opened_copy(disk).batch().last()
