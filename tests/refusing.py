"""What the tests share: asking for what is refused."""

from listpicks.errors import Refused


def assert_refused(test, at, *calls):
    """Each of the calls, without arguments, raises Refused with this number."""
    for call in calls:
        with test.assertRaises(Refused) as caught:
            call()
        test.assertIs(type(caught.exception), Refused)
        test.assertIs(type(caught.exception.at), int)
        test.assertEqual(caught.exception.at, at)
