"""Libraries to which names are added, and all callers that see them."""
