"""What several tests need."""

# Values that are no integers, though some of them are equal to integers.
NO_INTEGERS = (True, False, None, "", "1", "x", 1.0, b"1", (), (1,), [], [1], {}, {1}, object())


def assert_raises(test, kind, attribute, value, call, *arguments):
    """Hold that the call raises just this error with just this value."""
    with test.assertRaises(kind) as caught:
        call(*arguments)
    test.assertIs(type(caught.exception), kind)
    told = getattr(caught.exception, attribute)
    # True is equal to 1, and [] to another []: it must be the very value or an equal integer.
    if type(value) is int:
        test.assertIs(type(told), int)
        test.assertEqual(told, value)
    else:
        test.assertIs(told, value)
