"""The measures of steps, which bound the polynomials of the steps, and the limits of program texts."""

MOST_DEGREE = 6
MOST_WIDTH = 32
MOST_HEIGHT = 200
MOST_LINES = 240
MOST_STEPS = 480


def measure_step(step, measures):
    """Returns the degree, the width and the height of a step from those of the earlier steps."""
    word = step[0]
    if word == "letter":
        return (1, 1, 0)
    if word == "one":
        return (0, 1, 0)
    if word == "const":
        return (0, 1, _digits(step[1]))
    if word == "scale":
        degree, width, height = measures[step[2]]
        return (degree, width, height + _digits(step[1]))
    if word == "trace":
        degree, width, height = measures[step[1]]
        return (degree, width, height + 1)
    if word == "power":
        return _measure_power(measures[step[1]], step[2])
    return _measure_pair(word, measures[step[1]], measures[step[2]])


def _measure_power(measure, exponent):
    degree, width, height = measure
    widths = 1
    for _ in range(exponent):
        widths = widths * width
    return (exponent * degree, widths, exponent * height)


def _measure_pair(word, first, second):
    """Returns the measure of a product, a sum or a difference of two values."""
    if word == "times":
        return (first[0] + second[0], first[1] * second[1], first[2] + second[2])
    return (max(first[0], second[0]), first[1] + second[1], first[2] + second[2] + 1)


def _digits(ratio):
    return max(len(str(abs(ratio.num))), len(str(ratio.den)))
