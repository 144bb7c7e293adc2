"""The weights with which the values of polynomials at some points make words of root codes."""


def weights_of(field, first, points):
    """Return, for each of different points, the inverse of its power `first` times its sums with the others.

    With these weights, the sum of weight * point ** (first + j) is a divided difference of x ** j over
    all the points, which is 0 if j is less than their number less 1.
    """
    return [_weight(field, first, point, points) for point in points]


def _weight(field, first, point, points):
    """Return the weight of one of the points."""
    product = field.power(point, first)
    for other in points:
        if other != point:
            product = field.times(product, field.add(point, other))
    return field.inverse(product)
