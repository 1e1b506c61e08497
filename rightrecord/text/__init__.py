"""Text forms of the values, and a shell that runs commands on a desk."""
