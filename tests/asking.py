"""What the tests share: asking for what raises an error with a number."""


def assert_raised(test, kind, at, *calls):
    """Each of the calls, without arguments, raises just this error with this number."""
    for call in calls:
        with test.assertRaises(kind) as caught:
            call()
        test.assertIs(type(caught.exception), kind)
        test.assertIs(type(caught.exception.at), int)
        test.assertEqual(caught.exception.at, at)
