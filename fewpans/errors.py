"""Nothing is refused, so no error is defined here."""
