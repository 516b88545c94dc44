"""Small changes of the lengths of rods, and the velocities that make them."""
