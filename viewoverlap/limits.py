"""The limits that several modules share."""

# Bounds lengths, sizes, coefficients and upper bounds alike.
GREATEST = 1000000000000000000

REGISTER_COUNT = 6
AXIS_LIMIT = 6
VARIABLE_LIMIT = 8

# The most elements of a view that is gone through element by element.
ELEMENT_LIMIT = 400

# The most boxes that the searches of one call examine.
BOX_LIMIT = 2000
