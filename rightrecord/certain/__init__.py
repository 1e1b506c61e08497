"""What holds in every choice, and the certificates for it and against it."""
