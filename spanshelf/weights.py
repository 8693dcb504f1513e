"""Weights and costs of spans, and what places that pay come to."""

from spanshelf.errors import NoWeight
from spanshelf.spans import is_whole

GREATEST_WEIGHT = 10 ** 9


def is_weight(number):
    return is_whole(number) and 0 <= number <= GREATEST_WEIGHT


def check_weight(weight):
    if not is_weight(weight):
        raise NoWeight("a weight is a whole number from 0 to 10 ** 9")


def check_weights(weights, spans):
    if len(weights) != len(spans) or not all(is_weight(weight) for weight in weights):
        raise NoWeight("weights are as many whole numbers from 0 to 10 ** 9 as there are spans")


def weight_of(numbers, weights):
    return sum(weights[number] for number in numbers)


def pay_of(pays):
    """Tell what all places pay together, of tuples (place, pay)."""
    return sum(pay for place, pay in pays)


def pay_within(span, pays):
    """Tell what those places pay together that the span holds."""
    low, high = span
    return sum(pay for place, pay in pays if low <= place < high)
