"""Values, and the schemas whose tables hold them."""
