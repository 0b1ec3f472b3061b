"""Transaction programs whose runs are mended instead of repeated."""
