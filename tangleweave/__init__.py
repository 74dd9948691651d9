"""Documents of prose and chunks: read strictly, written again to the same bytes, and edited."""
