"""Neverbelow: curves that stay above nought, reckoned with whole numbers alone."""
