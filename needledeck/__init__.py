"""Cards with notches at their edge, needles that let them drop, and words of notches."""
