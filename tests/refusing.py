"""What the tests share: asking for what is refused."""

from asking import assert_raised
from listpicks.errors import Refused


def assert_refused(test, at, *calls):
    """Each of the calls, without arguments, raises Refused with this number."""
    assert_raised(test, Refused, at, *calls)
